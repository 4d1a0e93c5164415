import inspect
import itertools
import math
import random
import unittest

from swapbook.books import Book, book_of
from swapbook.errors import OtherWares, TooMany
from swapbook.homes import home, homes, many_homes, road
from swapbook.pairs import joined, met, within
from swapbook.scales import Line, Rest, Scale, fair, parting
from swapbook.stairs import stairs, stairs_of

GREAT = 10 ** 59 + 7
GREATEST = 10 ** 60 - 1


def fields(book):
    return book.many, [list(swap) for swap in book.swaps]


def values(told):
    if told is None:
        return None
    place, scale = told
    return place, type(scale), list(scale.weights), scale.rest if isinstance(scale, Rest) else None


def units(many, number=1):
    return [[number if place == k else 0 for place in range(many)] for k in range(many)]


def head(step):
    return next(place for place, number in enumerate(step) if number != 0)


def are_stairs(rows):
    if not all(any(row) for row in rows):
        return False
    heads = [head(row) for row in rows]
    if heads != sorted(set(heads)) or any(row[place] <= 0 for row, place in zip(rows, heads)):
        return False
    return all(0 <= rows[before][heads[k]] < rows[k][heads[k]] for k in range(len(rows)) for before in range(k))


def mixed(chance, many):
    """Rows of which each list of whole numbers is a sum in just one way."""
    rows = units(many)
    for again in range(3 * many):
        one, other = chance.randrange(many), chance.randrange(many)
        if one != other:
            part = chance.randrange(-2, 3)
            rows[one] = [a + part * b for a, b in zip(rows[one], rows[other])]
    return rows


def random_book(chance, many, most, swaps):
    return book_of(many, [[chance.randrange(-most, most + 1) for ware in range(many)] for swap in range(swaps)])


# Books of two wares, and by hand whether a basket is worth nothing by them.
SMALL = (
    ([[2, 1], [0, 3]], lambda a, b: a % 2 == 0 and (b - a // 2) % 3 == 0),
    ([[4, -2], [-6, 3]], lambda a, b: a == -2 * b),
    ([[4, -2], [-8, 4], [0, 0]], lambda a, b: a == -2 * b and b % 2 == 0),
    ([[0, 4], [0, 6]], lambda a, b: a == 0 and b % 2 == 0),
    ([[3, 0], [3, 0], [-3, 0]], lambda a, b: a % 3 == 0 and b == 0),
    ([[5, 0], [0, 5], [1, 2]], lambda a, b: (b - 2 * a) % 5 == 0),
    ([[4, 0], [0, 6]], lambda a, b: a % 4 == 0 and b % 6 == 0),
    ([[1, 1], [1, -1]], lambda a, b: (a + b) % 2 == 0),
    ([[2, 1], [3, 2]], lambda a, b: True),
    ([[0, 0], [0, 0]], lambda a, b: a == 0 and b == 0),
    ([], lambda a, b: a == 0 and b == 0),
)
BOX = [list(basket) for basket in itertools.product(range(-6, 7), repeat=2)]


class Interface(unittest.TestCase):
    def test_arguments_bear_their_names(self):
        for asked in (joined, met, within):
            self.assertEqual(list(inspect.signature(asked).parameters), ["one", "other"])
            asked(one=book_of(1, []), other=book_of(1, []))

    def test_kinds(self):
        one, other = book_of(2, [[1, 2], [3, 4]]), book_of(2, [[5, -6], [7, 8]])
        for told in (joined(one, other), met(one, other), met(one, one), met(book_of(2, []), one)):
            self.assertIs(type(told), Book)
            self.assertIs(type(told.many), int)
            self.assertIs(type(told.swaps), list)
            for swap in told.swaps:
                self.assertIs(type(swap), list)
                for number in swap:
                    self.assertIs(type(number), int)
        told = within(one, book_of(2, []))
        self.assertIs(type(told), tuple)
        self.assertEqual(len(told), 2)
        self.assertIs(type(told[0]), int)
        self.assertIsInstance(told[1], Scale)


class Joined(unittest.TestCase):
    def test_the_swaps_of_the_first_and_behind_them_those_of_the_other(self):
        for many, first, second in (
            (1, [[2]], [[3]]), (1, [[3]], [[2]]), (2, [[1, -1], [0, 4]], [[0, 0]]), (2, [], [[1, 2]]),
            (2, [[1, 2]], []), (3, [], []), (2, [[1, 2]], [[1, 2]]), (8, units(8)[:6], units(8, -3)[:6]),
            (2, [[GREATEST, -GREAT]], [[-GREATEST, 0], [0, GREAT]]),
        ):
            with self.subTest(first=first, second=second):
                self.assertEqual(fields(joined(book_of(many, first), book_of(many, second))), (many, first + second))

    def test_12_swaps_together(self):
        for many in (1, 8):
            for first in range(13):
                one = [[k] * many for k in range(first)]
                other = [[-k] * many for k in range(12 - first)]
                told = joined(book_of(many, one), book_of(many, other))
                self.assertEqual(fields(told), (many, one + other))

    def test_more_than_12_swaps_are_too_many(self):
        for many in (1, 8):
            for first in range(13):
                for second in range(13 - first, 13):
                    one, other = book_of(many, [[0] * many] * first), book_of(many, [[0] * many] * second)
                    self.assertRaises(TooMany, joined, one, other)

    def test_worth_the_same_by_either_is_so_by_it(self):
        one, other = book_of(2, [[4, 0]]), book_of(2, [[0, 6], [6, 0]])
        told = joined(one, other)
        self.assertEqual(home(told, [7, -1]), [1, 5])
        self.assertIsNotNone(road(told, [0, 0], [2, 6]))
        self.assertIsNone(road(told, [0, 0], [1, 0]))

    def test_a_told_book_is_taken_again(self):
        one = joined(book_of(1, [[GREATEST]]), book_of(1, [[GREAT]]))
        told = joined(joined(one, one), met(one, one))
        self.assertEqual(fields(told), (1, [[GREATEST], [GREAT]] * 2 + [[math.gcd(GREATEST, GREAT)]]))


class Met(unittest.TestCase):
    def assert_met(self, one, other, swaps):
        for first, second in ((one, other), (other, one)):
            told = met(first, second)
            self.assertEqual(fields(told), (one.many, swaps))
            self.assertTrue(are_stairs(told.swaps))

    def test_one_ware(self):
        for first, second in itertools.product(range(-12, 13), repeat=2):
            number = abs(first * second) // math.gcd(first, second) if first and second else 0
            self.assert_met(book_of(1, [[first]]), book_of(1, [[second]]), [[number]] if number else [])
        self.assert_met(book_of(1, [[4], [6]]), book_of(1, [[9], [15]]), [[6]])
        self.assert_met(book_of(1, [[GREATEST]]), book_of(1, [[-GREAT]]), [[math.lcm(GREATEST, GREAT)]])
        self.assert_met(book_of(1, [[GREATEST]] * 12), book_of(1, [[GREATEST * GREAT]] * 12), [[GREATEST * GREAT]])

    def test_by_hand(self):
        for many, first, second, swaps in (
            (2, [[2, 0]], [[0, 2]], []), (2, [[1, 1]], [[1, -1]], []), (2, [[2, 2]], [[3, 3]], [[6, 6]]),
            (2, [[1, 0], [0, 1]], [[2, 1]], [[2, 1]]), (2, [[2, 0], [0, 2]], [[1, 1]], [[2, 2]]),
            (2, [[2, 0], [0, 2]], [[1, 1], [0, 3]], [[2, 2], [0, 6]]),
            (2, [[1, 1], [1, -1]], [[3, 0], [0, 1]], [[3, 1], [0, 2]]),
            (3, [[1, 0, 0], [0, 1, 0]], [[0, 1, 0], [0, 0, 1]], [[0, 1, 0]]),
            (3, [[1, 0, -1], [0, 1, -1]], [[1, 1, 1]], []),
            (3, [[1, 0, -1], [0, 1, -1]], [[1, -2, 0], [0, 0, 5]], [[5, -10, 5]]),
            (2, [[GREATEST, GREAT]], [[2 * GREATEST, 2 * GREAT], [0, 0]], [[2 * GREATEST, 2 * GREAT]]),
        ):
            with self.subTest(first=first, second=second):
                self.assert_met(book_of(many, first), book_of(many, second), swaps)

    def test_one_home_by_it_just_where_by_both(self):
        for (first, by_first), (second, by_second) in itertools.product(SMALL, repeat=2):
            told = met(book_of(2, first), book_of(2, second))
            self.assertTrue(are_stairs(told.swaps))
            for basket in BOX:
                with self.subTest(first=first, second=second, basket=basket):
                    same = home(told, basket) == [0, 0]
                    self.assertEqual(same, by_first(*basket) and by_second(*basket))

    def test_two_baskets_have_one_home_by_it_just_where_by_both(self):
        chance = random.Random(1)
        for again in range(150):
            many = chance.randrange(1, 4)
            one = random_book(chance, many, 3, chance.randrange(5))
            other = random_book(chance, many, 3, chance.randrange(5))
            told = met(one, other)
            self.assertEqual(told.many, many)
            self.assertTrue(are_stairs(told.swaps))
            self.assertEqual(told.swaps, stairs(told).steps)
            for basket in itertools.product(range(-4, 5), repeat=many):
                start = [chance.randrange(-9, 10) for ware in range(many)]
                end = [a + b for a, b in zip(start, basket)]
                both = home(one, start) == home(one, end) and home(other, start) == home(other, end)
                self.assertEqual(home(told, start) == home(told, end), both)

    def test_with_itself(self):
        chance = random.Random(2)
        for many, most, swaps in ((1, 9, 3), (3, 5, 2), (8, 9, 12), (8, GREATEST, 12), (8, GREATEST, 5), (2, 3, 0)):
            book = random_book(chance, many, most, swaps)
            self.assert_met(book, book, stairs(book).steps)
            self.assert_met(book, book_of(many, stairs(book).steps), stairs(book).steps)

    def test_books_without_a_swap_and_with_swaps_of_noughts(self):
        for many in (1, 2, 8):
            empty = book_of(many, [])
            for swaps in ([], [[0] * many], [[0] * many] * 12, units(many), units(many, GREATEST), [[3] * many]):
                self.assert_met(empty, book_of(many, swaps), [])
                self.assert_met(book_of(many, [[0] * many]), book_of(many, swaps), [])

    def test_with_a_book_by_which_all_is_worth_nothing(self):
        chance = random.Random(3)
        for most, swaps in ((9, 12), (GREATEST, 7), (4, 3)):
            book = random_book(chance, 8, most, swaps)
            self.assert_met(book, book_of(8, units(8)), stairs(book).steps)

    def test_swaps_told_by_multiples_of_the_same_rows(self):
        # By rows of which each basket is a sum in one way, the multiples that both have are the common multiples.
        chance = random.Random(4)
        for many in (2, 3, 5, 8):
            for most in (1, 7, 10 ** 50):
                rows = mixed(chance, many)
                first = [chance.randrange(-most, most + 1) for row in rows]
                second = [chance.randrange(most + 1) for row in rows]
                both = [math.lcm(a, b) if a and b else 0 for a, b in zip(first, second)]

                def taken(counts):
                    return [[number * count for number in row] for row, count in zip(rows, counts)]

                with self.subTest(many=many, most=most):
                    self.assert_met(book_of(many, taken(first)), book_of(many, taken(second)), stairs_of(taken(both)))

    def test_as_many_homes_as_those_of_both_books_leave(self):
        # Of two books with an end of homes: the homes by the met and by the joined book, multiplied, are as many as
        # the homes by the one and by the other, multiplied. This leaves no room for a greater or a lesser book.
        chance = random.Random(5)
        for many, most, swaps in ((2, 9, 3), (3, 6, 4), (4, 9, 4), (8, 4, 8), (8, GREATEST, 8), (8, GREATEST, 12)):
            one = random_book(chance, many, most, swaps)
            other = random_book(chance, many, most, swaps)
            told = met(one, other)
            self.assertTrue(are_stairs(told.swaps))
            both = book_of(many, stairs_of(one.swaps + other.swaps))
            self.assertEqual(many_homes(told) * many_homes(both), many_homes(one) * many_homes(other))
            self.assertIsNone(within(told, one))
            self.assertIsNone(within(told, other))

    def test_a_told_book_is_taken_again(self):
        chance = random.Random(6)
        one, other, third = (random_book(chance, 4, GREATEST, 4) for again in range(3))
        told = met(met(one, other), third)
        self.assertEqual(fields(told), fields(met(one, met(third, other))))
        self.assertEqual(fields(met(told, told)), fields(told))
        self.assertIsNone(within(told, third))
        small = met(book_of(2, [[2, 0], [0, 3]]), book_of(2, [[1, 1], [0, 2]]))
        self.assertEqual(fields(small), (2, [[2, 0], [0, 6]]))
        self.assertEqual(len(homes(small)), 12)
        self.assertEqual(home(small, [3, -1]), [1, 5])


class Within(unittest.TestCase):
    def assert_within(self, one, other, place):
        told = within(one, other)
        if place is None:
            self.assertIsNone(told)
            return
        self.assertIs(type(told), tuple)
        self.assertEqual(told[0], place)
        scale = told[1]
        self.assertIsInstance(scale, Scale)
        self.assertIn(type(scale), (Line, Rest))
        self.assertEqual(len(scale.weights), other.many)
        self.assertIsNone(fair(other, scale))
        self.assertIs(scale.levels(one.swaps[place]), False)
        for before in one.swaps[:place]:
            self.assertIsNone(parting(other, [0] * other.many, before))

    def test_by_hand(self):
        for first, second, place in (
            ([[6]], [[3]], None), ([[3]], [[6]], 0), ([[6], [9]], [[3]], None), ([[6], [9]], [[6]], 1),
            ([[12], [9], [6]], [[6]], 1), ([[5], [7]], [[6]], 0), ([], [[6]], None), ([], [], None), ([[0]], [], None),
            ([[1]], [], 0), ([[0], [1]], [], 1), ([[0], [0]], [[0]], None), ([[1]], [[0]], 0),
            ([[1]], [[2], [3]], None),
            ([[GREATEST * 2]], [[GREATEST]], None), ([[GREATEST]], [[-GREATEST]], None),
            ([[GREATEST - 1]], [[GREATEST]], 0),
        ):
            with self.subTest(first=first, second=second):
                self.assert_within(book_of(1, first), book_of(1, second), place)

    def test_small_books(self):
        for (first, by_first), (second, by_second) in itertools.product(SMALL, repeat=2):
            places = [place for place, swap in enumerate(first) if not by_second(*swap)]
            with self.subTest(first=first, second=second):
                self.assert_within(book_of(2, first), book_of(2, second), places[0] if places else None)

    def test_none_just_where_all_that_is_worth_nothing_by_the_first_is_so_by_the_other(self):
        for (first, by_first), (second, by_second) in itertools.product(SMALL, repeat=2):
            told = within(book_of(2, first), book_of(2, second))
            all_so = all(by_second(*basket) for basket in BOX if by_first(*basket))
            self.assertEqual(told is None, all_so)

    def test_the_first_of_several(self):
        for place in range(12):
            for behind in ([2, 0], [1, 0], [0, 1], [0, 0]):
                one = book_of(2, [[2, 0]] * place + [[1, 0]] + [behind] * (11 - place))
                self.assert_within(one, book_of(2, [[2, 0]]), place)
                self.assert_within(one, book_of(2, units(2, 2) * 6), place)
                self.assert_within(one, book_of(2, units(2)), None)
                one = book_of(2, [[2, 0]] * place + [[0, 1]] + [behind] * (11 - place))
                self.assert_within(one, book_of(2, [[2, 0]]), place)

    def test_the_same_told_by_other_swaps(self):
        chance = random.Random(7)
        for many, most, swaps in ((1, 9, 4), (3, 9, 2), (8, 9, 12), (8, GREATEST, 6), (8, GREATEST, 12)):
            one = random_book(chance, many, most, swaps)
            other = book_of(many, stairs(one).steps)
            self.assert_within(one, other, None)
            self.assert_within(other, one, None)
            self.assert_within(one, one, None)

    def test_which_way_round(self):
        less_worth, more_worth = book_of(2, [[4, 0], [0, 2]]), book_of(2, [[2, 0], [0, 1]])
        self.assert_within(less_worth, more_worth, None)
        self.assert_within(more_worth, less_worth, 0)

    def test_joined_and_met(self):
        chance = random.Random(8)
        for most in (2, 30, GREATEST):
            for again in range(10):
                many = chance.randrange(1, 9)
                one = random_book(chance, many, most, chance.randrange(7))
                other = random_book(chance, many, most, chance.randrange(7))
                for book in (one, other):
                    self.assert_within(book, joined(one, other), None)
                    self.assert_within(met(one, other), book, None)

    def test_8_wares_and_great_numbers(self):
        # By Rest 2 with weights of 1 the swaps of the second book weigh 0; of the first book swap 9 alone does not.
        chance = random.Random(9)
        for most in (5, GREATEST):
            swaps = fields(random_book(chance, 8, most, 12))[1]
            for swap in swaps:
                swap[0] += sum(swap) % 2
            other = book_of(8, swaps)
            first = [[a - 3 * b for a, b in zip(swaps[k], swaps[11 - k])] for k in range(9)] + [list(swaps[4])]
            first[9][3] += 1
            self.assert_within(book_of(8, first), other, 9)


class Refusals(unittest.TestCase):
    def test_unlike_numbers_of_wares(self):
        for one, other in itertools.permutations((1, 2, 3, 7, 8), 2):
            for first, second in itertools.product((0, 1, 6), repeat=2):
                books = book_of(one, [[1] * one] * first), book_of(other, [[1] * other] * second)
                for ask in (joined, met, within):
                    self.assertRaises(OtherWares, ask, *books)

    def test_other_wares_ahead_of_too_many(self):
        for one, other in ((1, 2), (2, 1), (8, 7), (1, 8)):
            for first, second in ((12, 12), (12, 1), (1, 12), (7, 6)):
                books = book_of(one, [[0] * one] * first), book_of(other, [[0] * other] * second)
                self.assertRaises(OtherWares, joined, *books)

    def test_too_many_is_told_by_joined_alone(self):
        one, other = book_of(1, [[6]] * 12), book_of(1, [[4]] * 12)
        self.assertRaises(TooMany, joined, one, other)
        self.assertEqual(fields(met(one, other)), (1, [[12]]))
        self.assertEqual(within(one, other)[0], 0)

    def test_behind_a_refusal_everything_is_answered_as_ever(self):
        one, other, third = book_of(2, [[4, 0]] * 7), book_of(2, [[6, 0], [0, 5]] * 3), book_of(1, [[1]])

        def answers():
            return (fields(one), fields(other), fields(third), fields(met(one, other)), values(within(one, other)),
                    fields(joined(other, other)), fields(joined(third, third)), values(within(other, one)))

        before = answers()
        for refused, ask in (
            (TooMany, lambda: joined(one, other)), (TooMany, lambda: joined(one, one)),
            (OtherWares, lambda: joined(one, third)), (OtherWares, lambda: met(third, one)),
            (OtherWares, lambda: within(one, third)), (OtherWares, lambda: within(third, one)),
        ):
            self.assertRaises(refused, ask)
            self.assertEqual(answers(), before)


class OwnLists(unittest.TestCase):
    BOOKS = ((2, [[4, 0], [0, 6]]), (2, []), (2, [[0, 0]]), (2, [[1, 0], [0, 1]]), (2, [[2, 1]]), (2, [[6, 3], [1, 1]]))

    def test_what_is_handed_in_stays_as_it_was(self):
        for first, second in itertools.product(self.BOOKS, repeat=2):
            one, other = book_of(*first), book_of(*second)
            for ask in (joined, met, within):
                ask(one, other)
                ask(one, one)
                self.assertEqual((fields(one), fields(other)), (first, second))

    def test_told_books_have_lists_of_their_own(self):
        for first, second in itertools.product(self.BOOKS, repeat=2):
            one, other = book_of(*first), book_of(*second)
            held = [one.swaps, other.swaps] + one.swaps + other.swaps
            for told in (joined(one, other), met(one, other), met(one, one), joined(one, one)):
                for some in [told.swaps] + told.swaps:
                    self.assertFalse(any(some is kept for kept in held))
                    held.append(some)

    def test_what_is_told_stays_as_it_is(self):
        one, other = book_of(2, [[4, 0], [0, 6]]), book_of(2, [[6, 2]])
        together, both, told = joined(one, other), met(one, other), within(one, other)
        before = fields(together), fields(both), values(told)
        joined(together, both)
        met(together, both)
        within(together, both)
        within(other, one)
        self.assertEqual((fields(together), fields(both), values(told)), before)
        self.assertEqual((fields(joined(one, other)), fields(met(one, other)), values(within(one, other))), before)

    def test_swaps_changed_behind_the_books(self):
        first, second = [[4, 0], [0, 6]], [[6, 0]]
        one, other = book_of(2, first), book_of(2, second)
        together, both = joined(one, other), met(one, other)
        first[0][0] = 1
        second.append([0, 1])
        self.assertEqual(fields(together), (2, [[4, 0], [0, 6], [6, 0]]))
        self.assertEqual(fields(both), (2, [[12, 0]]))
        self.assertEqual(fields(met(one, other)), (2, [[12, 0]]))
        self.assertEqual(within(one, other)[0], 0)
        self.assertEqual(fields(joined(other, one)), (2, [[6, 0], [4, 0], [0, 6]]))


if __name__ == "__main__":
    unittest.main()
