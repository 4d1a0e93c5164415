import inspect
import itertools
import random
import unittest

from swapbook.books import book_of, led
from swapbook.errors import NotAlike
from swapbook.stairs import Stairs, stairs, stairs_of

GREAT = 10 ** 59 + 7
GREATEST = 10 ** 60 - 1

# Wares: egg, hen, goat. Three eggs and a hen for a goat; twelve eggs for a hen.
MARKET = [[-3, -1, 1], [-12, 1, 0]]


def copied(rows):
    return [list(row) for row in rows]


def head_of(row):
    return [place for place, number in enumerate(row) if number != 0][0]


def sum_of(rows, counts, length):
    return [sum(row[place] * count for row, count in zip(rows, counts)) for place in range(length)]


def is_sum_of_steps(row, steps):
    left = list(row)
    for step in steps:
        many, rest = divmod(left[head_of(step)], step[head_of(step)])
        if rest != 0:
            return False
        left = [a - many * b for a, b in zip(left, step)]
    return not any(left)


def determinant(rows):
    # Bareiss: every division comes out even.
    left, sign, before = copied(rows), 1, 1
    for k in range(len(left) - 1):
        found = [i for i in range(k, len(left)) if left[i][k] != 0]
        if not found:
            return 0
        if found[0] != k:
            left[k], left[found[0]] = left[found[0]], left[k]
            sign = -sign
        for i in range(k + 1, len(left)):
            for j in range(k + 1, len(left)):
                left[i][j] = (left[i][j] * left[k][k] - left[i][k] * left[k][j]) // before
        before = left[k][k]
    return sign * left[-1][-1]


def made_stairs(chance, heads, length, most):
    """Stairs as the document tells them, made number by number."""
    tops = [chance.choice((1, 1, 2, 3, 6, most)) for head in heads]
    steps = []
    for k, head in enumerate(heads):
        step = [0] * head + [tops[k]] + [chance.randrange(-most, most + 1) for place in range(head + 1, length)]
        for later in range(k + 1, len(heads)):
            step[heads[later]] = chance.randrange(tops[later])
        steps.append(step)
    return steps


def stirred(chance, steps, more):
    """Other lists with the same sums: steps added to one another and turned about, sums of them and noughts besides."""
    rows = copied(steps)
    for again in range(3 * len(rows)):
        one, other = chance.sample(range(len(rows)), 2) if len(rows) > 1 else (0, 0)
        if one != other:
            many = chance.choice((-2, -1, 1, 2))
            rows[one] = [a + many * b for a, b in zip(rows[one], rows[other])]
    length = len(steps[0])
    for again in range(more):
        counts = [chance.choice((-3, -1, 0, 0, 0, 1, 2)) for row in rows]
        rows.append(chance.choice((sum_of(rows, counts, length), list(chance.choice(rows)), [0] * length)))
    chance.shuffle(rows)
    return [[-number for number in row] if chance.random() < 0.5 else row for row in rows]


class Checks(unittest.TestCase):
    def assert_stairs(self, steps):
        heads = [head_of(step) for step in steps]
        for step, head in zip(steps, heads):
            self.assertGreater(step[head], 0)
        for before, head in zip(heads, heads[1:]):
            self.assertLess(before, head)
        for k, head in enumerate(heads):
            for step in steps[:k]:
                self.assertGreaterEqual(step[head], 0)
                self.assertLess(step[head], steps[k][head])

    def assert_all_sums_of_steps(self, rows, steps):
        for row in rows:
            self.assertTrue(is_sum_of_steps(row, steps))


class Interface(unittest.TestCase):
    def test_arguments_bear_their_names(self):
        self.assertEqual(list(inspect.signature(stairs_of).parameters), ["rows"])
        self.assertEqual(list(inspect.signature(stairs).parameters), ["book"])

    def test_kinds(self):
        told = stairs_of([[2, 4], [3, 5]])
        flight = stairs(book_of(2, [[2, 4], [3, 5]]))
        self.assertIsInstance(flight, Stairs)
        for lists in (told, flight.steps, flight.roads):
            self.assertIs(type(lists), list)
            for some in lists:
                self.assertIs(type(some), list)
                for number in some:
                    self.assertIs(type(number), int)
        self.assertIs(type(flight.heads), list)
        for head in flight.heads:
            self.assertIs(type(head), int)


class StairsOf(Checks):
    def test_by_hand(self):
        for rows, told in (
            ([[5]], [[5]]),
            ([[-5]], [[5]]),
            ([[6], [10], [15]], [[1]]),
            ([[6], [-10]], [[2]]),
            ([[4, 6]], [[4, 6]]),
            ([[-4, 6]], [[4, -6]]),
            ([[4, -6]], [[4, -6]]),
            ([[2, 4], [3, 5]], [[1, 1], [0, 2]]),
            ([[0, 5], [3, -1]], [[3, 4], [0, 5]]),
            ([[0, 5], [3, 5]], [[3, 0], [0, 5]]),
            ([[0, 5], [3, 11]], [[3, 1], [0, 5]]),
            ([[0, 0, -3], [0, 2, 5]], [[0, 2, 2], [0, 0, 3]]),
            ([[2, 7, 1], [0, 0, 4], [4, 14, 3]], [[2, 7, 0], [0, 0, 1]]),
            ([[2, -7, 1], [0, 0, 4]], [[2, -7, 1], [0, 0, 4]]),
            (MARKET, [[3, 1, -1], [0, 5, -4]]),
            ([[1, 2, 3], [4, 5, 6], [7, 8, 9]], [[1, 2, 3], [0, 3, 6]]),
            ([[0, 0, 1], [0, 1, 0], [1, 0, 0]], [[1, 0, 0], [0, 1, 0], [0, 0, 1]]),
        ):
            with self.subTest(rows):
                self.assertEqual(stairs_of(rows), told)

    def test_a_step_is_lowered_at_more_than_one_head(self):
        self.assertEqual(stairs_of([[1, 9, 9], [0, 2, 9], [0, 0, 4]]), [[1, 1, 1], [0, 2, 1], [0, 0, 4]])
        self.assertEqual(stairs_of([[1, -9, -9], [0, 2, -9], [0, 0, 4]]), [[1, 1, 2], [0, 2, 3], [0, 0, 4]])

    def test_no_step(self):
        for rows in ([], [[]], [[], []], [[]] * 24, [[0]], [[0, 0], [0, 0]], [[0] * 24] * 24):
            with self.subTest(rows):
                self.assertEqual(stairs_of(rows), [])

    def test_lists_of_noughts_add_nothing(self):
        self.assertEqual(stairs_of([[0, 0], [2, 4], [0, 0], [3, 5], [0, 0]]), [[1, 1], [0, 2]])

    def test_the_same_list_twice(self):
        self.assertEqual(stairs_of([[2, 7], [2, 7]]), [[2, 7]])
        self.assertEqual(stairs_of([[2, 7], [-2, -7], [2, 7]]), [[2, 7]])
        some = [-2, 7]
        self.assertEqual(stairs_of([some, some]), [[2, -7]])
        self.assertEqual(some, [-2, 7])

    def test_sums_and_multiples_of_others_add_nothing(self):
        self.assertEqual(stairs_of([[4, 6, 1], [8, 12, 2], [-12, -18, -3]]), [[4, 6, 1]])
        self.assertEqual(stairs_of([[2, 0, 1], [0, 3, 1], [2, 3, 2], [4, -3, 1]]), [[2, 0, 1], [0, 3, 1]])

    def test_multiples_alone_are_not_the_list(self):
        self.assertEqual(stairs_of([[4, 6], [6, 9]]), [[2, 3]])
        self.assertEqual(stairs_of([[4, 6], [8, 12]]), [[4, 6]])

    def test_stairs_are_their_own_stairs(self):
        for steps in ([[3, 4], [0, 5]], [[0, 2, 2], [0, 0, 3]], [[2, -7, 0, 1], [0, 0, 1, -8]], [[0, 0, 0, GREATEST]]):
            self.assertEqual(stairs_of(steps), steps)

    def test_whatever_the_order_and_the_signs(self):
        rows = [[4, -6, 3], [6, 1, 0], [0, 10, -9], [2, 7, -3]]
        told = stairs_of(rows)
        self.assert_stairs(told)
        for order in itertools.permutations(rows):
            for signs in itertools.product((1, -1), repeat=4):
                turned = [[sign * number for number in row] for sign, row in zip(signs, order)]
                self.assertEqual(stairs_of(turned), told)

    def test_all_pairs_of_small_lists(self):
        small = list(itertools.product(range(-2, 3), repeat=2))
        counts = list(itertools.product(range(-4, 5), repeat=2))
        for rows in itertools.product(small, repeat=2):
            rows = copied(rows)
            sums = {tuple(sum_of(rows, some, 2)) for some in counts}
            steps = stairs_of(rows)
            self.assert_stairs(steps)
            self.assert_all_sums_of_steps(rows, steps)
            for step in steps:
                self.assertIn(tuple(step), sums)

    def test_stairs_made_ahead_come_back(self):
        chance = random.Random(8)
        for again in range(150):
            length = chance.randrange(1, 9)
            heads = sorted(chance.sample(range(length), chance.randrange(1, length + 1)))
            steps = made_stairs(chance, heads, length, chance.choice((4, 60, 10 ** 6)))
            rows = stirred(chance, steps, chance.randrange(5))
            with self.subTest(rows):
                self.assertEqual(stairs_of(rows), steps)


class GreatStairs(Checks):
    def test_sixty_figures(self):
        self.assertEqual(stairs_of([[GREATEST, 1], [0, GREAT]]), [[GREATEST, 1], [0, GREAT]])
        self.assertEqual(stairs_of([[-GREATEST, 1], [0, -GREAT]]), [[GREATEST, GREAT - 1], [0, GREAT]])
        self.assertEqual(stairs_of([[GREATEST], [GREATEST - 1]]), [[1]])
        self.assertEqual(stairs_of([[2 * 10 ** 59], [-6 * 10 ** 58]]), [[2 * 10 ** 58]])
        # GREATEST - 1 times the first one less GREATEST times the second one.
        self.assertEqual(stairs_of([[GREATEST, 0], [GREATEST - 1, 1]]), [[1, GREATEST - 1], [0, GREATEST]])

    def test_24_lists_of_24_numbers(self):
        chance = random.Random(24)
        rows = [[chance.randrange(-GREATEST, GREATEST + 1) for place in range(24)] for row in range(24)]
        steps = stairs_of(rows)
        self.assertEqual(len(steps), 24)
        self.assert_stairs(steps)
        self.assert_all_sums_of_steps(rows, steps)
        product = 1
        for place, step in enumerate(steps):
            product *= step[place]
        # All lists are sums of steps; with this product no step is more than the lists come to.
        self.assertEqual(product, abs(determinant(rows)))
        self.assertEqual(stairs_of([[-number for number in row] for row in reversed(rows)]), steps)
        self.assertEqual(stairs_of(steps), steps)

    def test_24_lists_of_24_numbers_that_hang_together(self):
        chance = random.Random(25)
        for count in (1, 5, 12, 20, 23):
            heads = sorted(chance.sample(range(24), count))
            steps = made_stairs(chance, heads, 24, 10 ** 30)
            rows = stirred(chance, steps, 24 - count)
            self.assertEqual(len(rows), 24)
            self.assertLessEqual(max(abs(number) for row in rows for number in row), GREATEST)
            with self.subTest(count):
                self.assertEqual(stairs_of(rows), steps)

    def test_24_lists_of_one_number_and_one_list_of_24(self):
        self.assertEqual(stairs_of([[6 * k * 10 ** 50] for k in range(-12, 12)]), [[6 * 10 ** 50]])
        row = [0] * 23 + [-GREATEST]
        self.assertEqual(stairs_of([row]), [[0] * 23 + [GREATEST]])
        row = [-1] + [GREATEST] * 23
        self.assertEqual(stairs_of([row] * 24), [[1] + [-GREATEST] * 23])

    def test_each_list_with_a_head_ahead_of_those_before(self):
        rows = [[0] * (23 - k) + [1] + [k] * k for k in range(24)]
        unit = [[1 if place == k else 0 for place in range(24)] for k in range(24)]
        self.assertEqual(stairs_of(rows), unit)

    def test_told_steps_handed_in_again(self):
        told = stairs_of([[GREATEST, GREAT, 5], [GREAT, 7, GREATEST], [9, GREATEST, GREAT]])
        self.assertGreater(max(number for step in told for number in step), 10 ** 100)
        self.assertEqual(stairs_of(told), told)
        self.assertEqual(stairs_of(told[::-1] + [[-number for number in told[0]]]), told)


class UnlikeLists(unittest.TestCase):
    def test_refused(self):
        for rows in (
            [[1], []], [[], [1]], [[1, 2], [1]], [[1], [1, 2]], [[0], [0, 0]], [[1, 2], [3, 4], [5]],
            [[1, 2], [3], [4, 5]], [[1, 2], [3, 4], [5, 6, 7]], [[0] * 24] * 23 + [[0] * 23], [[]] * 23 + [[0]],
            [[1], [1, 2], [1, 2]],
        ):
            with self.subTest(rows):
                self.assertRaises(NotAlike, stairs_of, rows)

    def test_a_refusal_changes_nothing(self):
        rows = [[4, 6], [6, 9], [1]]
        self.assertRaises(NotAlike, stairs_of, rows)
        self.assertEqual(rows, [[4, 6], [6, 9], [1]])
        self.assertEqual(stairs_of(rows[:2]), [[2, 3]])
        self.assertEqual(stairs_of(rows[2:]), [[1]])
        rows[2].append(0)
        self.assertEqual(stairs_of(rows), [[1, 0], [0, 3]])
        self.assertEqual(stairs_of([]), [])


class StairsOfABook(Checks):
    def assert_flight(self, book):
        flight = stairs(book)
        self.assertEqual(flight.steps, stairs_of(book.swaps))
        self.assert_stairs(flight.steps)
        self.assertEqual(flight.heads, [head_of(step) for step in flight.steps])
        self.assertEqual(len(flight.roads), len(flight.steps))
        for step, way in zip(flight.steps, flight.roads):
            self.assertEqual(len(way), len(book.swaps))
            self.assertEqual(led(book, [0] * book.many, way), step)
        return flight

    def test_the_market(self):
        flight = self.assert_flight(book_of(3, MARKET))
        self.assertEqual(flight.steps, [[3, 1, -1], [0, 5, -4]])
        self.assertEqual(flight.heads, [0, 1])
        self.assertEqual(flight.roads, [[-1, 0], [-4, 1]])

    def test_heads_with_gaps(self):
        flight = self.assert_flight(book_of(5, [[0, 0, 0, -7, 1], [0, 3, 5, 9, 0]]))
        self.assertEqual(flight.steps, [[0, 3, 5, 2, 1], [0, 0, 0, 7, -1]])
        self.assertEqual(flight.heads, [1, 3])
        self.assertEqual(flight.roads, [[1, 1], [-1, 0]])

    def test_no_step(self):
        for many in (1, 3, 8):
            for swaps in ([], [[0] * many], [[0] * many] * 12):
                flight = self.assert_flight(book_of(many, swaps))
                self.assertEqual((flight.steps, flight.heads, flight.roads), ([], [], []))

    def test_swaps_that_hang_together(self):
        for many, swaps, steps in (
            (1, [[6], [10], [15]], [[1]]),
            (1, [[4], [-4], [4], [0]], [[4]]),
            (2, [[4, 6], [6, 9]], [[2, 3]]),
            (2, [[0, 0], [4, 6], [4, 6], [8, 12], [-4, -6]], [[4, 6]]),
            (3, [[1, 2, 3], [4, 5, 6], [7, 8, 9], [5, 7, 9]], [[1, 2, 3], [0, 3, 6]]),
            (2, [[2, 4], [3, 5], [5, 9], [1, 1]], [[1, 1], [0, 2]]),
        ):
            with self.subTest(swaps):
                self.assertEqual(self.assert_flight(book_of(many, swaps)).steps, steps)

    def test_12_swaps_with_one_ware_and_with_8(self):
        flight = self.assert_flight(book_of(1, [[GREATEST - k] for k in range(12)]))
        self.assertEqual((flight.steps, flight.heads), ([[1]], [0]))
        flight = self.assert_flight(book_of(8, [[(w + 2) ** k for w in range(8)] for k in range(12)]))
        self.assertEqual(flight.heads, list(range(8)))

    def test_books_of_all_sizes(self):
        chance = random.Random(9)
        for again in range(60):
            many = chance.randrange(1, 9)
            heads = sorted(chance.sample(range(many), chance.randrange(1, many + 1)))
            steps = made_stairs(chance, heads, many, chance.choice((4, 60, 10 ** 40)))
            swaps = stirred(chance, steps, chance.randrange(13 - len(steps)))
            with self.subTest(swaps):
                flight = self.assert_flight(book_of(many, swaps))
                self.assertEqual((flight.steps, flight.heads), (steps, heads))

    def test_sixty_figures(self):
        chance = random.Random(60)
        for count in (1, 7, 8, 9, 12):
            swaps = [[chance.randrange(-GREATEST, GREATEST + 1) for ware in range(8)] for swap in range(count)]
            flight = self.assert_flight(book_of(8, swaps))
            self.assertEqual(len(flight.steps), min(count, 8))

    def test_a_basket_is_worth_nothing_just_where_it_is_a_sum_of_steps(self):
        steps = stairs(book_of(2, [[6, 0], [4, 4], [0, 6]])).steps
        # Halved, they are [3, 0], [2, 2], [0, 3]: all baskets whose numbers are alike by the rest of three.
        for basket in itertools.product(range(-7, 8), repeat=2):
            worth_nothing = basket[0] % 2 == 0 and basket[1] % 2 == 0 and (basket[0] - basket[1]) % 6 == 0
            self.assertEqual(is_sum_of_steps(basket, steps), worth_nothing)

    def test_two_books_are_apart(self):
        one, other = book_of(1, [[4], [6]]), book_of(2, [[5, 1]])
        first = stairs(one)
        self.assertEqual((stairs(other).steps, stairs(other).heads), ([[5, 1]], [0]))
        self.assertEqual((first.steps, first.heads), ([[2]], [0]))
        self.assertEqual(led(one, [0], first.roads[0]), [2])


class OwnLists(unittest.TestCase):
    ASKED = (
        [], [[]], [[0, 0]], [[2, 3]], [[-2, 3]], [[1, 0], [0, 1]], [[3, 4], [0, 5]], [[2, 4], [3, 5]],
        [[0, 1], [1, 0]], [[2, 7], [2, 7]], [[5, 1], [0, 0], [-5, 4]],
    )

    def test_lists_handed_in_stay_as_they_were(self):
        for rows in self.ASKED:
            with self.subTest(rows):
                handed = copied(rows)
                within = list(handed)
                stairs_of(handed)
                self.assertEqual(handed, rows)
                for row, before in zip(handed, within):
                    self.assertIs(row, before)

    def test_a_changed_told_list_changes_nothing(self):
        for rows in self.ASKED:
            with self.subTest(rows):
                handed = copied(rows)
                told = stairs_of(handed)
                kept = copied(told)
                for step in told:
                    step[0] = 77
                    step.append(5)
                    self.assertEqual(handed, rows)
                told.append([9, 9])
                self.assertEqual(handed, rows)
                self.assertEqual(stairs_of(handed), kept)
                self.assertEqual(stairs_of(rows), kept)

    def test_lists_changed_behind_the_call_change_no_told_list(self):
        for rows in self.ASKED:
            with self.subTest(rows):
                handed = copied(rows)
                told = stairs_of(handed)
                kept = copied(told)
                for row in handed:
                    row.insert(0, 55)
                handed.append([1])
                self.assertEqual(told, kept)

    def test_lists_changed_behind_the_call_are_read_anew(self):
        rows = [[4], [6]]
        self.assertEqual(stairs_of(rows), [[2]])
        rows[0][0] = 9
        self.assertEqual(stairs_of(rows), [[3]])
        rows.append([2])
        self.assertEqual(stairs_of(rows), [[1]])

    def test_told_lists_are_apart(self):
        told = stairs_of([[1, 0], [0, 1]])
        told[0][1] = 8
        self.assertEqual(told[1], [0, 1])
        other = stairs_of([[1, 0], [0, 1]])
        self.assertEqual(other, [[1, 0], [0, 1]])

    def test_a_book_stays_as_it_was(self):
        for swaps in (MARKET, [[1, 0, 0]], [[0, 0, 0]], [], [[1, 0, 0], [0, 1, 0], [0, 0, 1]]):
            with self.subTest(swaps):
                book = book_of(3, swaps)
                flight = stairs(book)
                kept = (copied(flight.steps), list(flight.heads), copied(flight.roads))
                self.assertEqual((book.many, book.swaps), (3, swaps))
                again = stairs(book)
                self.assertEqual((again.steps, again.heads), kept[:2])
                self.assertEqual((flight.steps, flight.heads, flight.roads), kept)

    def test_a_book_handed_in_behind_a_change_of_its_swaps_list(self):
        swaps = copied(MARKET)
        book = book_of(3, swaps)
        swaps[0][0] = 1
        swaps.clear()
        self.assertEqual(stairs(book).steps, [[3, 1, -1], [0, 5, -4]])


if __name__ == "__main__":
    unittest.main()
