import inspect
import itertools
import math
import random
import unittest

from swapbook.books import book_of, led
from swapbook.errors import BadBasket, BadRoad
from swapbook.homes import road
from swapbook.rounds import plain, plain_road, rounds
from swapbook.stairs import stairs_of

GREAT = 10 ** 59 + 7
GREATEST = 10 ** 60 - 1

# Wares: egg, hen, goat. Three eggs and a hen for a goat; twelve eggs for a hen. So a goat is worth 15 eggs.
MARKET = [[-3, -1, 1], [-12, 1, 0]]


def fields(book):
    return book.many, [list(swap) for swap in book.swaps]


def units(many, number=1):
    return [[number if place == k else 0 for place in range(many)] for k in range(many)]


def head_of(step):
    return next(place for place, number in enumerate(step) if number != 0)


def added(one, other, many):
    return [a + b * many for a, b in zip(one, other)]


# Books whose rounds were reckoned by hand.
KNOWN = (
    (1, [], []),
    (8, [], []),
    (3, MARKET, []),
    (1, [[1]], []),
    (1, [[-GREATEST]], []),
    (8, units(8), []),
    (1, [[0]], [[1]]),
    (2, [[0, 0], [0, 0]], units(2)),
    (8, [[0] * 8] * 12, units(12)),
    (2, [[1, 2], [1, 2]], [[1, -1]]),
    (2, [[1, 2], [-1, -2]], [[1, 1]]),
    (2, [[1, 2], [3, 4], [1, 2]], [[1, 0, -1]]),
    (2, [[1, 2], [3, 4], [4, 6]], [[1, 1, -1]]),
    (2, [[1, 2], [3, 4], [5, 8]], [[2, 1, -1]]),
    (2, [[1, 2], [0, 0], [3, 4]], [[0, 1, 0]]),
    (1, [[2], [3]], [[3, -2]]),
    (1, [[3], [2]], [[2, -3]]),
    (1, [[4], [6]], [[3, -2]]),
    (1, [[4], [-6]], [[3, 2]]),
    (1, [[2], [3], [5]], [[1, 1, -1], [0, 5, -3]]),
    (1, [[1], [1], [1]], [[1, 0, -1], [0, 1, -1]]),
    (1, [[6], [10], [15]], [[5, 0, -2], [0, 3, -2]]),
    (2, [[2, 4], [3, 6], [0, 0]], [[3, -2, 0], [0, 0, 1]]),
    (1, [[GREATEST], [GREATEST - 1]], [[GREATEST - 1, -GREATEST]]),
    (2, [[GREAT, 0], [0, 1], [2 * GREAT, -GREATEST]], [[2, -GREATEST, -1]]),
)


class Checks(unittest.TestCase):
    def assert_stairs(self, steps, length):
        """Point 8, from its words."""
        heads = []
        for step in steps:
            self.assertEqual(len(step), length)
            self.assertTrue(any(step))
            heads.append(head_of(step))
        self.assertEqual(heads, sorted(set(heads)))
        for place, (step, head) in enumerate(zip(steps, heads)):
            self.assertGreater(step[head], 0)
            for before in steps[:place]:
                self.assertGreaterEqual(before[head], 0)
                self.assertLess(before[head], step[head])

    def assert_rounds(self, book):
        told = rounds(book)
        self.assertIs(type(told), list)
        self.assert_stairs(told, len(book.swaps))
        for step in told:
            for basket in ([0] * book.many, [7, -5, 3, 1, 0, 2, -9, 4][:book.many]):
                self.assertEqual(led(book, basket, step), basket)
        return told

    def assert_plain(self, book, way):
        """Leads wherever the way leads, and is low at each head: there is just one such road."""
        told = plain(book, way)
        self.assertEqual(len(told), len(book.swaps))
        self.assertEqual(led(book, [0] * book.many, told), led(book, [0] * book.many, way))
        for step in rounds(book):
            head = head_of(step)
            self.assertGreaterEqual(told[head], 0)
            self.assertLess(told[head], step[head])
        self.assertEqual(plain(book, told), told)
        return told

    def is_sum(self, steps, way):
        left = list(way)
        for step in steps:
            head = head_of(step)
            left = added(left, step, -(left[head] // step[head]))
        return not any(left)


class Interface(unittest.TestCase):
    def test_arguments_bear_their_names(self):
        self.assertEqual(list(inspect.signature(rounds).parameters), ["book"])
        self.assertEqual(list(inspect.signature(plain).parameters), ["book", "road"])
        self.assertEqual(list(inspect.signature(plain_road).parameters), ["book", "one", "other"])

    def test_kinds(self):
        book = book_of(1, [[2], [3]])
        for told in rounds(book) + [plain(book, [4, 5]), plain_road(book, [0], [1])]:
            self.assertIs(type(told), list)
            for number in told:
                self.assertIs(type(number), int)
        self.assertIs(type(rounds(book)), list)
        self.assertIs(type(rounds(book_of(1, []))), list)
        self.assertIs(type(plain(book_of(1, []), [])), list)
        self.assertIs(type(plain_road(book_of(1, []), [1], [1])), list)


class Rounds(Checks):
    def test_by_hand(self):
        for many, swaps, told in KNOWN:
            with self.subTest(swaps):
                self.assertEqual(self.assert_rounds(book_of(many, swaps)), told)

    def test_all_rounds_are_their_sums(self):
        for many, swaps in (
            (2, [[1, 2], [3, 4], [5, 8], [0, 0]]), (1, [[2], [3], [5], [-4]]), (2, [[2, 4], [3, 6], [1, 1]]),
            (2, [[2, 0], [0, 3], [4, 3]]), (1, [[6], [10], [15]]), (3, [[1, 2, 3], [4, 5, 6], [7, 8, 9]]),
            (2, [[3, 1], [1, 3], [2, 2], [1, -1]]), (2, [[1, 0], [0, 1]]), (1, [[0], [5], [0]]),
        ):
            book = book_of(many, swaps)
            told = self.assert_rounds(book)
            with self.subTest(swaps):
                for way in itertools.product(range(-3, 4), repeat=len(swaps)):
                    is_round = not any(led(book, [0] * many, list(way)))
                    self.assertEqual(self.is_sum(told, way), is_round)

    def test_as_many_rounds_as_swaps_and_none(self):
        for many in (1, 8):
            for count in (0, 1, 11, 12):
                book = book_of(many, [[0] * many] * count)
                self.assertEqual(self.assert_rounds(book), units(count))
        for count in range(9):
            self.assertEqual(rounds(book_of(8, units(8, GREATEST)[:count])), [])

    def test_swaps_that_hang_together(self):
        chance = random.Random(171)
        for most in (1, 9, GREATEST):
            for again in range(5):
                swaps = [[chance.randrange(-most, most + 1) for ware in range(8)] for swap in range(4)]
                many = chance.randrange(-9, 10)
                swaps.append(added(swaps[0], swaps[1], many))
                swaps.append(list(swaps[2]))
                swaps.append([0] * 8)
                swaps.append([-5 * number for number in swaps[3]])
                told = self.assert_rounds(book_of(8, swaps))
                self.assertGreaterEqual(len(told), 4)
                for known in ([1, many, 0, 0, -1, 0, 0, 0], [0, 0, 1, 0, 0, -1, 0, 0], [0, 0, 0, 0, 0, 0, 1, 0],
                              [0, 0, 0, 5, 0, 0, 0, 1]):
                    self.assertTrue(self.is_sum(told, known))

    def test_8_wares_and_12_swaps(self):
        chance = random.Random(172)
        for most in (2, 50, GREATEST):
            swaps = [[chance.randrange(-most, most + 1) for ware in range(8)] for swap in range(12)]
            book = book_of(8, swaps)
            told = self.assert_rounds(book)
            # Eight of the twelve swaps do not hang together, which leaves four rounds that do not either.
            self.assertEqual(len(told), 4)
            for again in range(5):
                mixed = [0] * 12
                for step in told:
                    mixed = added(mixed, step, chance.randrange(-9, 10))
                self.assertTrue(self.is_sum(told, mixed))
                # A round divided by what its numbers have in common is a round too.
                shared = math.gcd(*mixed)
                if shared:
                    self.assertTrue(self.is_sum(told, [number // shared for number in mixed]))

    def test_they_are_their_own_stairs(self):
        for many, swaps, told in KNOWN:
            if len(swaps) > 0:
                self.assertEqual(stairs_of(rounds(book_of(many, swaps))), told)

    def test_told_numbers_handed_in_again(self):
        book = book_of(1, [[GREATEST], [GREAT], [GREATEST - 1]])
        told = self.assert_rounds(book)
        again = book_of(3, told + told)
        self.assertEqual(self.assert_rounds(again), [[1, 0, -1, 0], [0, 1, 0, -1]])


class Plain(Checks):
    def test_by_hand(self):
        for many, swaps, way, told in (
            (1, [], [], []),
            (3, MARKET, [5, -7], [5, -7]),
            (1, [[0]], [9], [0]),
            (8, [[0] * 8] * 12, list(range(-6, 6)), [0] * 12),
            (2, [[1, 2], [1, 2]], [3, 4], [0, 7]),
            (2, [[1, 2], [1, 2]], [-3, 4], [0, 1]),
            (2, [[1, 2], [-1, -2]], [3, 4], [0, 1]),
            (1, [[2], [3]], [5, 6], [2, 8]),
            (1, [[2], [3]], [-1, 1], [2, -1]),
            (1, [[2], [3]], [3, -2], [0, 0]),
            (1, [[2], [3], [5]], [1, 1, 1], [0, 0, 2]),
            (1, [[2], [3], [5]], [0, 4, -7], [0, 4, -7]),
            (1, [[2], [3], [5]], [0, -1, 0], [0, 4, -3]),
            (1, [[GREATEST], [GREATEST]], [-GREATEST, 0], [0, -GREATEST]),
            (1, [[GREATEST], [GREATEST - 1]], [-1, 0], [GREATEST - 2, -GREATEST]),
        ):
            with self.subTest(swaps=swaps, way=way):
                self.assertEqual(self.assert_plain(book_of(many, swaps), way), told)

    def test_the_same_for_all_roads_that_lead_alike(self):
        for many, swaps in ((2, [[1, 2], [3, 4], [5, 8]]), (1, [[2], [3], [5]]), (2, [[2, 4], [3, 6], [0, 0]]),
                            (2, [[2, 0], [0, 3], [4, 3]]), (1, [[6], [10], [15]]), (2, [[1, 0], [0, 1], [0, 0]])):
            book = book_of(many, swaps)
            seen = {}
            for way in itertools.product(range(-3, 4), repeat=3):
                told = self.assert_plain(book, list(way))
                reached = tuple(led(book, [0] * many, list(way)))
                self.assertEqual(seen.setdefault(reached, told), told)
            # Roads that lead elsewhere have another plain road.
            self.assertEqual(len({tuple(told) for told in seen.values()}), len(seen))

    def test_8_wares_and_12_swaps(self):
        chance = random.Random(181)
        for most in (2, 50, GREATEST):
            swaps = [[chance.randrange(-most, most + 1) for ware in range(8)] for swap in range(10)]
            book = book_of(8, swaps + [list(swaps[3]), added(swaps[0], swaps[1], -2)])
            for again in range(3):
                way = [chance.randrange(-most, most + 1) for swap in range(12)]
                told = self.assert_plain(book, way)
                for step in rounds(book):
                    self.assertEqual(plain(book, added(way, step, chance.randrange(-most, most + 1))), told)

    def test_bad_road(self):
        for many, swaps in ((3, MARKET), (1, []), (8, []), (1, [[0]]), (2, [[1, 2], [1, 2]]), (8, [[1] * 8] * 12)):
            book = book_of(many, swaps)
            for wrong in (len(swaps) - 1, len(swaps) + 1, 240):
                if wrong >= 0:
                    with self.subTest(swaps=swaps, wrong=wrong):
                        self.assertRaises(BadRoad, plain, book, [0] * wrong)
                        self.assertRaises(BadRoad, plain, book, [1] * wrong)


class PlainRoad(Checks):
    def test_by_hand(self):
        for many, swaps, one, other, told in (
            (3, MARKET, [30, 0, 0], [3, 1, 1], [1, 2]),
            (3, MARKET, [3, 1, 1], [30, 0, 0], [-1, -2]),
            (3, MARKET, [14, 0, 0], [0, 0, 1], None),
            (3, MARKET, [4, 5, 6], [4, 5, 6], [0, 0]),
            (1, [], [7], [7], []),
            (1, [], [7], [8], None),
            (1, [[0], [0]], [7], [7], [0, 0]),
            (1, [[0], [0]], [7], [8], None),
            (1, [[2], [3]], [0], [1], [2, -1]),
            (1, [[2], [3]], [1], [0], [1, -1]),
            (1, [[2], [3]], [-5], [-5], [0, 0]),
            (1, [[2], [3], [5]], [0], [1], [0, 2, -1]),
            (1, [[4], [6]], [0], [1], None),
            (1, [[4], [6]], [1], [3], [2, -1]),
            (2, [[1, 2], [1, 2], [0, 0]], [5, 5], [2, -1], [0, -3, 0]),
            (1, [[GREATEST], [GREATEST]], [GREATEST], [0], [0, -1]),
        ):
            with self.subTest(swaps=swaps, one=one, other=other):
                self.assertEqual(plain_road(book_of(many, swaps), one, other), told)

    def assert_plain_road(self, book, one, other, way):
        told = plain_road(book, one, other)
        self.assertEqual(led(book, one, told), other)
        self.assertEqual(plain(book, told), told)
        self.assertEqual(told, self.assert_plain(book, way))

    def test_is_the_plain_one_of_all_that_lead_there(self):
        chance = random.Random(182)
        for most in (2, 9, GREATEST):
            for many, count in ((1, 1), (1, 12), (3, 5), (8, 8), (8, 12)):
                swaps = [[chance.randrange(-most, most + 1) for ware in range(many)] for swap in range(count)]
                swaps[-1] = list(swaps[0])
                book = book_of(many, swaps)
                for again in range(3):
                    one = [chance.randrange(-most, most + 1) for ware in range(many)]
                    way = [chance.randrange(-most, most + 1) for swap in swaps]
                    self.assert_plain_road(book, one, led(book, one, way), way)

    def test_none_just_where_there_is_no_road(self):
        for swaps in ([[2, 1], [0, 3], [2, 4]], [[4, -2], [-6, 3]], [[0, 0]], [], [[2, 1], [3, 2], [5, 3]]):
            book = book_of(2, swaps)
            for other in itertools.product(range(-4, 5), repeat=2):
                way = road(book, [1, -1], list(other))
                told = plain_road(book, [1, -1], list(other))
                self.assertEqual(told, None if way is None else plain(book, way))

    def test_told_numbers_handed_in_again(self):
        book = book_of(1, [[GREATEST], [GREAT], [GREATEST - 1]])
        told = plain_road(book, [0], [GREATEST])
        far = led(book, [0], [number * GREATEST for number in told])
        self.assert_plain_road(book, [0], far, [number * GREATEST for number in told])


class BadBaskets(unittest.TestCase):
    def test_a_number_less_or_more(self):
        for many in (1, 2, 3, 8):
            right = [0] * many
            for swaps in ([], [[0] * many], [[1] * many], [[2] * many] * 12):
                book = book_of(many, swaps)
                for count in (many - 1, many + 1, 0, 240):
                    wrong = [0] * count
                    with self.subTest(many=many, swaps=swaps, wrong=count):
                        self.assertRaises(BadBasket, plain_road, book, wrong, right)
                        self.assertRaises(BadBasket, plain_road, book, right, wrong)
                        self.assertRaises(BadBasket, plain_road, book, wrong, wrong)


class BehindARefusal(unittest.TestCase):
    def test_everything_is_answered_as_if_nothing_had_been_refused(self):
        book, short, basket, way = book_of(2, [[1, 2], [1, 2], [0, 3]]), [1], [5, 5], [2, 3, 4]

        def answers():
            return (rounds(book), plain(book, way), plain_road(book, basket, [4, 0]), plain_road(book, basket, [4, 1]),
                    fields(book), list(short), list(basket), list(way))

        before = answers()
        for refusal, ask in (
            (BadRoad, lambda: plain(book, short)), (BadRoad, lambda: plain(book, way + [1])),
            (BadBasket, lambda: plain_road(book, short, basket)), (BadBasket, lambda: plain_road(book, basket, short)),
            (BadBasket, lambda: plain_road(book, short, short)),
        ):
            self.assertRaises(refusal, ask)
            self.assertEqual(answers(), before)

    def test_what_is_mended_behind_a_refusal_is_taken(self):
        book, way, basket = book_of(2, [[1, 2], [1, 2]]), [3], [0]
        self.assertRaises(BadRoad, plain, book, way)
        self.assertRaises(BadBasket, plain_road, book, basket, [3, 6])
        way.append(4)
        basket.append(0)
        self.assertEqual(plain(book, way), [0, 7])
        self.assertEqual(plain_road(book, basket, [3, 6]), [0, 3])


class OwnLists(unittest.TestCase):
    BOOKS = ((2, []), (2, [[0, 0]]), (2, [[0, 0], [0, 0]]), (2, [[1, 2], [1, 2]]), (2, [[1, 0], [0, 1]]),
             (2, [[1, 2], [3, 4], [4, 6], [0, 0]]))

    def test_what_is_handed_in_stays_as_it_was(self):
        for many, swaps in self.BOOKS:
            for first, second in (([4, 5], [4, 5]), ([0, 0], [1, 2]), ([0, 0], [-3, 1])):
                with self.subTest(swaps=swaps, first=first):
                    book, one, other, way = book_of(many, swaps), list(first), list(second), [3] * len(swaps)
                    rounds(book)
                    plain(book, way)
                    plain_road(book, one, other)
                    plain_road(book, one, one)
                    self.assertEqual((one, other, way), (first, second, [3] * len(swaps)))
                    self.assertEqual(fields(book), (many, swaps))

    def test_changed_rounds_change_nothing(self):
        for many, swaps in self.BOOKS:
            with self.subTest(swaps):
                book = book_of(many, swaps)
                told = rounds(book)
                kept = [list(step) for step in told]
                for place, step in enumerate(told):
                    step[0] = 50
                    step.append(9)
                    self.assertEqual(told[place + 1:], kept[place + 1:])
                told.append([1])
                self.assertEqual(fields(book), (many, swaps))
                self.assertEqual(rounds(book), kept)
                self.assertEqual(rounds(book_of(many, swaps)), kept)

    def test_a_changed_plain_road_changes_nothing(self):
        for many, swaps in self.BOOKS:
            for start in (0, 1, -7):
                with self.subTest(swaps=swaps, start=start):
                    book, way = book_of(many, swaps), [start] * len(swaps)
                    told, there = plain(book, way), plain_road(book, [4, 5], [4, 5])
                    kept = list(told), list(there)
                    for some in (told, there):
                        some.append(7)
                        some[0] = 1000
                    self.assertEqual(way, [start] * len(swaps))
                    self.assertEqual(fields(book), (many, swaps))
                    self.assertEqual((plain(book, way), plain_road(book, [4, 5], [4, 5])), kept)

    def test_lists_changed_behind_the_call(self):
        for many, swaps in self.BOOKS:
            with self.subTest(swaps):
                book, way, one, other = book_of(many, swaps), [2] * len(swaps), [4, 5], [4, 5]
                told, there = plain(book, way), plain_road(book, one, other)
                kept = list(told), list(there)
                way.append(3)
                way[0] = -8
                one[0] = 9
                other.clear()
                rounds(book)
                self.assertEqual((told, there), kept)

    def test_a_round_as_a_road(self):
        book = book_of(1, [[2], [3], [5]])
        told = rounds(book)
        for step in told:
            self.assertEqual(plain(book, step), [0, 0, 0])
        self.assertEqual(told, [[1, 1, -1], [0, 5, -3]])

    def test_swaps_changed_behind_the_book(self):
        swaps = [[1, 2], [1, 2]]
        book = book_of(2, swaps)
        swaps[0][0] = 7
        swaps.pop()
        self.assertEqual(rounds(book), [[1, -1]])
        self.assertEqual(plain(book, [3, 4]), [0, 7])
        self.assertEqual(plain_road(book, [0, 0], [2, 4]), [0, 2])


if __name__ == "__main__":
    unittest.main()
