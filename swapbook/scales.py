"""Scales: by a fair one each swap weighs nothing, so that no road joins baskets that it tells apart."""

from swapbook.baskets import less, times, weighed
from swapbook.books import refuse_bad_basket
from swapbook.errors import BadBasket, BadRest, BadScale
from swapbook.spans import climbed, head_of


def drawn(weights, basket):
    if len(basket) != len(weights):
        raise BadBasket("the basket has not one number for each weight")
    return weighed(weights, basket)


class Scale:
    def __init__(self, weights):
        # Whoever handed the weights in may change their list later.
        self.weights = list(weights)

    def weigh(self, basket):
        return drawn(self.weights, basket)

    def levels(self, basket):
        return self.weigh(basket) == 0


class Line(Scale):
    pass


class Rest(Scale):
    def __init__(self, rest, weights):
        if rest < 2:
            raise BadRest("the rest is below 2")
        Scale.__init__(self, [weight % rest for weight in weights])
        self.rest = rest

    def weigh(self, basket):
        return drawn(self.weights, basket) % self.rest


def fair(book, scale):
    if len(scale.weights) != book.many:
        raise BadScale("the scale has not one weight for each ware")
    for place, swap in enumerate(book.swaps):
        if not scale.levels(swap):
            return place
    return None


def levelled(steps, length):
    """Numbers by which each step weighs 0, the last of them above 0; no step has its head at the last place."""
    numbers = [0] * (length - 1) + [1]
    for step in reversed(steps):
        head = head_of(step)
        # The number at the head is still 0, and the steps behind have a 0 there: it can be set to fit this step alone.
        weight = weighed(numbers, step)
        numbers = times(numbers, step[head])
        numbers[head] = -weight
    return numbers


def divisor(numbers):
    """The greatest number that divides all of them."""
    great = 0
    for number in numbers:
        small = abs(number)
        while small != 0:
            left = great % small
            great = small
            small = left
    return great


def shortened(numbers):
    """The numbers, not all 0, divided by all that they have in common, so that what is told stays short."""
    shared = divisor(numbers)
    return [number // shared for number in numbers]


def shown(book, basket):
    """A tuple: how many times the basket is taken until it is worth nothing, and the scale that shows it.

    The number is the least of 1 or more; the scale is then a Rest whose rest is a multiple of it and which weighs the
    basket as its rest divided by it, but None for 1. Where there is no such number, it is 0, and the scale is a Line.
    """
    # Behind each row stands how many times the basket is taken off. A row with only noughts ahead of this comes last,
    # and has there the least number of times that is worth nothing.
    rows = climbed([swap + [0] for swap in book.swaps] + [basket + [-1]])
    steps = [row for row in rows if head_of(row) < book.many]
    numbers = levelled(steps, book.many + 1)
    weights = numbers[:book.many]
    if len(steps) == len(rows):
        return 0, Line(shortened(weights))
    many = rows[-1][book.many]
    if many == 1:
        return 1, None
    # What the last row weighs is the rest: by it all rows weigh nothing, the swaps among them.
    short = shortened([numbers[book.many] * many] + weights)
    return many, Rest(short[0], short[1:])


def parting(book, one, other):
    refuse_bad_basket(book, one)
    refuse_bad_basket(book, other)
    return shown(book, less(other, one))[1]
