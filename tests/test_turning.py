import inspect
import itertools
import random
import unittest

from swapbook.books import book_of, led
from swapbook.errors import BadBasket
from swapbook.homes import road
from swapbook.scales import Line, Rest, Scale, fair
from swapbook.turning import turn_of

GREAT = 10 ** 59 + 7
GREATEST = 10 ** 60 - 1

# Wares: egg, hen, goat. Three eggs and a hen for a goat; twelve eggs for a hen. So a goat is worth 15 eggs.
MARKET = [[-3, -1, 1], [-12, 1, 0]]


def fields(book):
    return book.many, [list(swap) for swap in book.swaps]


def values(told):
    many, way, scale = told
    seen = None if scale is None else (type(scale), list(scale.weights), getattr(scale, "rest", None))
    return many, None if way is None else list(way), seen


def times(basket, many):
    return [number * many for number in basket]


class Turns(unittest.TestCase):
    def assert_turn(self, book, basket, many=None):
        """What is told shows by itself that its number is right; where many is told too, it is this one."""
        told = turn_of(book, basket)
        self.assertIs(type(told), tuple)
        self.assertEqual(len(told), 3)
        turn, way, scale = told
        self.assertIs(type(turn), int)
        self.assertGreaterEqual(turn, 0)
        if many is not None:
            self.assertEqual(turn, many)
        self.assert_way(book, basket, turn, way)
        self.assert_scale(book, basket, turn, scale)
        return turn

    def assert_way(self, book, basket, turn, way):
        if turn == 0:
            self.assertIsNone(way)
        else:
            self.assertIs(type(way), list)
            self.assertEqual(led(book, [0] * book.many, way), times(basket, turn))

    def assert_scale(self, book, basket, turn, scale):
        if turn == 1:
            self.assertIsNone(scale)
            return
        self.assertIsInstance(scale, Scale)
        self.assertEqual(len(scale.weights), book.many)
        self.assertIsNone(fair(book, scale))
        self.assertIs(scale.levels(basket), False)
        if turn == 0:
            self.assertIs(type(scale), Line)
        else:
            self.assertIs(type(scale), Rest)
            self.assertEqual(scale.rest % turn, 0)
            self.assertEqual(scale.weigh(basket), scale.rest // turn)
            self.assertEqual(scale.weights, [weight % scale.rest for weight in scale.weights])

    def test_the_market(self):
        book = book_of(3, MARKET)
        for basket, many in (([0, 0, 0], 1), ([-15, 0, 1], 1), ([15, 0, -1], 1), ([-12, 1, 0], 1), ([1, 0, 0], 0),
                             ([0, 0, -1], 0), ([3, 1, 1], 0), ([-27, 1, 1], 1)):
            with self.subTest(basket):
                self.assert_turn(book, basket, many)

    def test_a_swap_of_several(self):
        # Six pears for four figs: half of it is never a swap, twice the half is.
        book = book_of(2, [[-6, 4]])
        for basket, many in (([-6, 4], 1), ([6, -4], 1), ([-3, 2], 2), ([3, -2], 2), ([-9, 6], 2), ([12, -8], 1),
                             ([0, 0], 1), ([-3, 3], 0), ([1, 0], 0)):
            with self.subTest(basket):
                self.assert_turn(book, basket, many)

    def test_one_ware(self):
        for swaps, number in (([[12]], 12), ([[-12]], 12), ([[12], [18]], 6), ([[6], [10], [15]], 1), ([[1]], 1)):
            for basket in range(-13, 14):
                many = next(many for many in range(1, 13) if basket * many % number == 0)
                with self.subTest(swaps=swaps, basket=basket):
                    self.assert_turn(book_of(1, swaps), [basket], many)

    def test_where_the_rest_must_be_more_than_the_number(self):
        # The basket is a multiple of its number here, so that a Rest with just this rest would level it.
        for many in (2, 3, 5, 60):
            for number in (many, 2 * many, many ** 3):
                book = book_of(1, [[many * number]])
                self.assert_turn(book, [number], many)
                self.assert_turn(book, [-number], many)
                self.assertGreater(turn_of(book, [number])[2].rest, many)

    def test_small_books(self):
        for swaps, worth_nothing in (
            ([[2, 1], [0, 3]], lambda a, b: a % 2 == 0 and (b - a // 2) % 3 == 0),
            ([[0, -3], [-2, -1], [2, 4]], lambda a, b: a % 2 == 0 and (b - a // 2) % 3 == 0),
            ([[4, 0], [0, 6]], lambda a, b: a % 4 == 0 and b % 6 == 0),
            ([[6, 0], [0, 6], [2, 2]], lambda a, b: (a - b) % 6 == 0 and a % 2 == 0),
            ([[5, 0], [0, 5], [1, 2]], lambda a, b: (b - 2 * a) % 5 == 0),
            ([[4, -2], [-8, 4], [0, 0]], lambda a, b: a == -2 * b and b % 2 == 0),
            ([[0, 8], [0, 8], [0, -12]], lambda a, b: a == 0 and b % 4 == 0),
            ([[2, 1], [3, 2]], lambda a, b: True),
            ([[0, 0], [0, 0]], lambda a, b: a == 0 and b == 0),
            ([], lambda a, b: a == 0 and b == 0),
        ):
            book = book_of(2, swaps)
            for a, b in itertools.product(range(-6, 7), repeat=2):
                many = next((many for many in range(1, 61) if worth_nothing(a * many, b * many)), 0)
                with self.subTest(swaps=swaps, basket=[a, b]):
                    self.assert_turn(book, [a, b], many)

    def test_no_lesser_number_does(self):
        chance = random.Random(161)
        seen = {}
        for again in range(300):
            many = chance.randrange(1, 5)
            swaps = [[chance.randrange(-4, 5) for ware in range(many)] for swap in range(chance.randrange(1, 6))]
            book = book_of(many, swaps)
            basket = [chance.randrange(-5, 6) for ware in range(many)]
            turn = self.assert_turn(book, basket)
            seen[min(turn, 2)] = True
            for lesser in range(1, min(turn if turn else 30, 60)):
                self.assertIsNone(road(book, [0] * many, times(basket, lesser)))
        self.assertEqual(sorted(seen), [0, 1, 2])

    def test_no_swap_and_swaps_of_noughts(self):
        for many in (1, 2, 8):
            for swaps in ([], [[0] * many], [[0] * many] * 12):
                book = book_of(many, swaps)
                self.assert_turn(book, [0] * many, 1)
                for place in range(many):
                    for number in (1, -1, 7, GREATEST):
                        self.assert_turn(book, [number if ware == place else 0 for ware in range(many)], 0)

    def test_nothing_is_worth_nothing_at_once(self):
        for many, swaps in ((1, []), (1, [[3]]), (8, [[2] * 8] * 12), (3, MARKET)):
            book = book_of(many, swaps)
            self.assert_turn(book, [0] * many, 1)
            self.assertEqual(led(book, [0] * many, turn_of(book, [0] * many)[1]), [0] * many)

    def test_8_wares_and_12_swaps(self):
        chance = random.Random(162)
        for most in (1, 9, 10 ** 30, GREATEST):
            for factor in (1, 3):
                swaps = [[factor * chance.randrange(-most, most + 1) for ware in range(8)] for swap in range(9)]
                swaps += [[0] * 8, list(swaps[0]), [a - 3 * b for a, b in zip(swaps[1], swaps[2])]]
                book = book_of(8, swaps)
                for again in range(3):
                    basket = [chance.randrange(-most, most + 1) for ware in range(8)]
                    turn = self.assert_turn(book, basket)
                    self.assertNotEqual(turn, 0)
                    if factor == 3 and any(number % 3 for number in basket):
                        self.assertEqual(turn % 3, 0)
                reached = led(book, [0] * 8, [chance.randrange(-9, 10) for swap in swaps])
                self.assert_turn(book, reached, 1)

    def test_8_wares_of_which_some_have_no_part(self):
        chance = random.Random(163)
        for most in (1, 9, GREATEST):
            swaps = [[0] + [2 * chance.randrange(-most, most + 1) for ware in range(6)] + [0] for swap in range(12)]
            book = book_of(8, swaps)
            for again in range(3):
                middle = [2 * chance.randrange(-most, most + 1) + 1 for ware in range(6)]
                self.assertEqual(self.assert_turn(book, [0] + middle + [0]) % 2, 0)
                self.assert_turn(book, [1] + middle + [0], 0)
                self.assert_turn(book, [0] + middle + [-1], 0)
                self.assert_turn(book, [GREATEST] + middle + [GREATEST], 0)

    def test_great_numbers(self):
        self.assert_turn(book_of(1, [[GREATEST]]), [1], GREATEST)
        self.assert_turn(book_of(1, [[GREATEST]]), [-1], GREATEST)
        self.assert_turn(book_of(1, [[GREATEST]]), [GREATEST], 1)
        self.assert_turn(book_of(1, [[10 ** 59]]), [2 * 10 ** 58], 5)
        self.assert_turn(book_of(2, [[GREATEST, 1], [0, GREAT]]), [1, 0], GREATEST * GREAT)
        self.assert_turn(book_of(2, [[GREATEST, GREAT]]), [GREATEST, GREAT + 1], 0)
        self.assert_turn(book_of(2, [[2 * GREAT, -6]]), [-GREAT, 3], 2)
        self.assert_turn(book_of(2, [[GREATEST, 0], [GREATEST - 1, 0]]), [GREAT, 0], 1)
        eight = [[GREATEST if place == ware else 0 for place in range(8)] for ware in range(8)]
        self.assert_turn(book_of(8, eight), list(range(1, 9)), GREATEST)

    def test_told_numbers_handed_in_again(self):
        book = book_of(2, [[GREATEST, 1], [0, GREAT]])
        turn, way, scale = turn_of(book, [1, 0])
        self.assert_turn(book, times([1, 0], turn), 1)
        self.assert_turn(book, way)
        self.assert_turn(book, scale.weights)
        self.assert_turn(book, led(book, [1, 0], way), turn)
        self.assert_turn(book, [GREATEST * turn, turn], 1)


class Interface(unittest.TestCase):
    def test_arguments_bear_their_names(self):
        self.assertEqual(list(inspect.signature(turn_of).parameters), ["book", "basket"])

    def test_kinds(self):
        for swaps, basket in (([], [0]), ([], [1]), ([[2]], [1]), ([[2]], [2])):
            many, way, scale = turn_of(book_of(1, swaps), basket)
            self.assertIs(type(many), int)
            for number in way or []:
                self.assertIs(type(number), int)
            for weight in scale.weights if scale else []:
                self.assertIs(type(weight), int)


class BadBaskets(unittest.TestCase):
    def test_a_number_less_or_more(self):
        for many in (1, 2, 3, 8):
            for swaps in ([], [[0] * many], [[1] * many], [[2] * many] * 12):
                book = book_of(many, swaps)
                for wrong in (many - 1, many + 1, 0, 240):
                    with self.subTest(many=many, swaps=swaps, wrong=wrong):
                        self.assertRaises(BadBasket, turn_of, book, [0] * wrong)
                        self.assertRaises(BadBasket, turn_of, book, [1] * wrong)

    def test_everything_behind_a_refusal_is_answered_as_before(self):
        book, basket = book_of(2, [[4, 0], [0, 6]]), [1]
        before = values(turn_of(book, [1, 1])), values(turn_of(book, [4, 0]))
        self.assertRaises(BadBasket, turn_of, book, basket)
        self.assertRaises(BadBasket, turn_of, book, [1, 2, 3])
        self.assertEqual((values(turn_of(book, [1, 1])), values(turn_of(book, [4, 0]))), before)
        self.assertEqual((fields(book), basket), ((2, [[4, 0], [0, 6]]), [1]))
        basket.append(1)
        self.assertEqual(turn_of(book, basket)[0], 12)
        self.assertRaises(BadBasket, turn_of, book, [])


class OwnLists(unittest.TestCase):
    ASKED = (
        (2, [[4, 0], [0, 6]], [1, 1]), (2, [[4, 0], [0, 6]], [4, 6]), (2, [[4, 0], [0, 6]], [0, 0]),
        (2, [[4, 6]], [1, 0]), (2, [], [0, 0]), (2, [], [3, 0]), (2, [[0, 0]], [0, 0]), (1, [[1]], [0]),
        (1, [[1]], [5]),
    )

    def test_what_is_handed_in_stays_as_it_was(self):
        for many, swaps, basket in self.ASKED:
            with self.subTest(swaps=swaps, basket=basket):
                book, handed = book_of(many, swaps), list(basket)
                turn_of(book, handed)
                self.assertEqual((fields(book), handed), ((many, swaps), basket))

    def test_a_changed_road_changes_nothing(self):
        for many, swaps, basket in self.ASKED:
            with self.subTest(swaps=swaps, basket=basket):
                book, handed = book_of(many, swaps), list(basket)
                told = turn_of(book, handed)
                kept = values(told)
                if told[1] is not None:
                    told[1].append(7)
                    told[1][0] = 1000
                self.assertEqual((fields(book), handed), ((many, swaps), basket))
                again = turn_of(book, handed)
                self.assertEqual(again[0], kept[0])
                if kept[1] is not None:
                    self.assertEqual(led(book, [0] * many, again[1]), times(basket, kept[0]))
                if again[2] is not None:
                    self.assertIsNone(fair(book, again[2]))

    def test_a_basket_changed_behind_the_call(self):
        book = book_of(2, [[4, 0], [0, 6]])
        for basket in ([1, 1], [4, 6], [0, 0]):
            handed = list(basket)
            told = turn_of(book, handed)
            kept = values(told)
            handed[0] += 1
            handed.append(5)
            turn_of(book, [3, 3])
            self.assertEqual(values(told), kept)
            self.assertEqual(turn_of(book, basket)[0], kept[0])

    def test_a_swap_of_the_book_as_basket(self):
        book = book_of(2, [[4, 0], [0, 6]])
        told = turn_of(book, book.swaps[1])
        self.assertEqual((told[0], told[1], told[2]), (1, [0, 1], None))
        told[1][0] = 9
        self.assertEqual(fields(book), (2, [[4, 0], [0, 6]]))

    def test_swaps_changed_behind_the_book(self):
        swaps = [[4, 0], [0, 6]]
        book = book_of(2, swaps)
        swaps[0][0] = 7
        swaps.pop()
        self.assertEqual(turn_of(book, [1, 1])[0], 12)


if __name__ == "__main__":
    unittest.main()
