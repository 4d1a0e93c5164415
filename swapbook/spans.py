"""Rows of whole numbers of one length, and all sums of them, each taken a whole number of times."""

from swapbook.baskets import less, plus, times


def head_of(row):
    """The place of the first number other than 0; the row's length, where there is none."""
    for place, number in enumerate(row):
        if number != 0:
            return place
    return len(row)


def common(one, other):
    """Of two numbers above 0 the greatest that divides both, and how many times each is taken to come to it."""
    great = one
    small = other
    taken = 1
    later = 0
    while small != 0:
        part = great // small
        left = great - part * small
        great = small
        small = left
        left = taken - part * later
        taken = later
        later = left
    # Only the first count is kept up on the way: the other one follows from it.
    return great, taken, (great - taken * one) // other


def upright(row):
    return times(row, -1) if row[head_of(row)] < 0 else row


def lowered(row, steps):
    """The row less so many of each step that at each head it has 0 or more, less than the step there."""
    left = list(row)
    for step in steps:
        head = head_of(step)
        many = left[head] // step[head]
        if many != 0:
            left = less(left, times(step, many))
    return left


def merged(step, row):
    """Two rows with the same sums as these two, the second one with a 0 at the head that both have."""
    head = head_of(step)
    shared = common(step[head], row[head])
    first = plus(times(step, shared[1]), times(row, shared[2]))
    second = less(times(row, step[head] // shared[0]), times(step, row[head] // shared[0]))
    return first, second


def taken_in(steps, row):
    """Steps with rising heads whose sums are those of the steps and the row."""
    loose = lowered(row, steps)
    grown = []
    for place, step in enumerate(steps):
        if head_of(loose) < head_of(step):
            return grown + [upright(loose)] + steps[place:]
        if head_of(loose) == head_of(step):
            pair = merged(step, loose)
            grown.append(pair[0])
            # Lowered at once, so that it is above 0 where it meets a later step's head, and its numbers stay short.
            loose = lowered(pair[1], steps[place + 1:])
        else:
            grown.append(step)
    if head_of(loose) < len(loose):
        grown.append(upright(loose))
    return grown


def settled(steps):
    """The steps, each lowered by those behind it."""
    flat = []
    for step in reversed(steps):
        flat = [lowered(step, flat)] + flat
    return flat


def climbed(rows):
    """The stairs of rows of one length."""
    steps = []
    for row in rows:
        # Settled row by row: as stairs of the rows so far the numbers stay as short as these rows' minors.
        steps = settled(taken_in(steps, row))
    return steps


def marked(rows):
    """The rows with, behind each of them, how many times each row is in it."""
    longer = []
    for place, row in enumerate(rows):
        counts = [0] * len(rows)
        counts[place] = 1
        longer.append(row + counts)
    return longer


def padded(rows, many):
    """The rows with so many noughts behind each of them."""
    return [row + [0] * many for row in rows]


def traced(rows):
    """The stairs of the rows with, behind each row, how many times each row is in it.

    What stands in front of these counts is then the stairs of the rows; where only noughts stand in front, the counts
    are the stairs of all counts by which the rows come to nothing.
    """
    return climbed(marked(rows))


def tails(steps, many):
    """What stands behind the first so many numbers, of those steps that have only noughts there."""
    return [step[many:] for step in steps if head_of(step) >= many]


def counted(steps, basket, many):
    """So many counts, as they stand behind the steps, by which steps come to the basket; None where none do."""
    # Each step that is taken off the turned basket takes its counts off the noughts behind it: what is left of these
    # are the counts that come to it.
    left = lowered(times(basket, -1) + [0] * many, steps)
    if any(left[:len(basket)]):
        return None
    return left[len(basket):]
