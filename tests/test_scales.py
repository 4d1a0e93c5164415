import inspect
import itertools
import random
import unittest

from swapbook.books import book_of, led
from swapbook.errors import BadBasket, BadRest, BadScale
from swapbook.homes import home, road
from swapbook.scales import Line, Rest, Scale, fair, parting

GREAT = 10 ** 59 + 7
GREATEST = 10 ** 60 - 1

# Wares: egg, hen, goat. Three eggs and a hen for a goat; twelve eggs for a hen. So a goat is worth 15 eggs.
MARKET = [[-3, -1, 1], [-12, 1, 0]]


def market():
    return book_of(3, [list(swap) for swap in MARKET])


def fields(book):
    return book.many, [list(swap) for swap in book.swaps]


def values(scale):
    if scale is None:
        return None
    return type(scale), list(scale.weights), scale.rest if isinstance(scale, Rest) else None


def units(many, number=1):
    return [[number if place == k else 0 for place in range(many)] for k in range(many)]


# Books of two wares, and of a basket how many times it is taken until it is worth nothing, 0 for never, by hand.
def least(worth_nothing):
    def turn(a, b):
        for many in range(1, 61):
            if worth_nothing(a * many, b * many):
                return many
        return 0
    return turn


SMALL = (
    ([[2, 1], [0, 3]], least(lambda a, b: a % 2 == 0 and (b - a // 2) % 3 == 0)),
    ([[0, -3], [-2, -1], [2, 4]], least(lambda a, b: a % 2 == 0 and (b - a // 2) % 3 == 0)),
    ([[4, -2], [-6, 3]], least(lambda a, b: a == -2 * b)),
    ([[4, -2], [-8, 4], [0, 0]], least(lambda a, b: a == -2 * b and b % 2 == 0)),
    ([[0, 4], [0, 6]], least(lambda a, b: a == 0 and b % 2 == 0)),
    ([[3, 0], [3, 0], [-3, 0]], least(lambda a, b: a % 3 == 0 and b == 0)),
    ([[5, 0], [0, 5], [1, 2]], least(lambda a, b: (b - 2 * a) % 5 == 0)),
    ([[4, 0], [0, 6]], least(lambda a, b: a % 4 == 0 and b % 6 == 0)),
    ([[0, 8], [0, 0]], least(lambda a, b: a == 0 and b % 8 == 0)),
    ([[2, 1], [3, 2]], least(lambda a, b: True)),
    ([[0, 0], [0, 0]], least(lambda a, b: a == 0 and b == 0)),
    ([], least(lambda a, b: a == 0 and b == 0)),
)


class Interface(unittest.TestCase):
    def test_arguments_bear_their_names(self):
        for asked, names in (
            (fair, ["book", "scale"]), (parting, ["book", "one", "other"]),
            (Line, ["weights"]), (Rest, ["rest", "weights"]),
            (Scale.weigh, ["self", "basket"]), (Scale.levels, ["self", "basket"]),
            (Line.weigh, ["self", "basket"]), (Line.levels, ["self", "basket"]),
            (Rest.weigh, ["self", "basket"]), (Rest.levels, ["self", "basket"]),
        ):
            self.assertEqual(list(inspect.signature(asked).parameters), names)

    def test_arguments_by_their_names(self):
        self.assertEqual(values(Line(weights=[1, 2])), (Line, [1, 2], None))
        self.assertEqual(values(Rest(rest=5, weights=[6, 2])), (Rest, [1, 2], 5))
        self.assertEqual(Line([1, 2]).weigh(basket=[3, 4]), 11)
        self.assertIs(Rest(11, [1, 2]).levels(basket=[3, 4]), True)

    def test_line_and_rest_stand_beneath_scale(self):
        self.assertTrue(issubclass(Line, Scale))
        self.assertTrue(issubclass(Rest, Scale))
        self.assertFalse(issubclass(Line, Rest))
        self.assertFalse(issubclass(Rest, Line))
        self.assertIsInstance(Line([1]), Scale)
        self.assertIsInstance(Rest(2, [1]), Scale)
        self.assertNotIsInstance(Line([1]), Rest)
        self.assertNotIsInstance(Rest(2, [1]), Line)

    def test_kinds(self):
        for scale in (Line([2, -3]), Rest(7, [2, -3]), Line([0]), Rest(2, [2])):
            self.assertIs(type(scale.weights), list)
            for weight in scale.weights:
                self.assertIs(type(weight), int)
            self.assertIs(type(scale.weigh([5] * len(scale.weights))), int)
        self.assertIs(type(Rest(7, [2]).rest), int)
        self.assertIs(type(fair(book_of(1, [[1]]), Line([1]))), int)
        self.assertFalse(hasattr(Line([1]), "rest"))


class Lines(unittest.TestCase):
    def test_weights_are_those_handed_in(self):
        for weights in ([0], [1], [-5], [3, 0, -2], [0] * 8, list(range(-4, 4)), [GREATEST, -GREATEST]):
            self.assertEqual(Line(weights).weights, weights)

    def test_weigh(self):
        for weights, basket, weight in (
            ([3], [4], 12), ([3], [-4], -12), ([-3], [4], -12), ([0], [9], 0), ([3], [0], 0),
            ([1, 12, 15], [15, 0, -1], 0), ([1, 12, 15], [1, 1, 1], 28), ([1, -2], [5, 2], 1),
            ([1, 2, 3, 4, 5, 6, 7, 8], [8, 7, 6, 5, 4, 3, 2, 1], 120),
            ([1, 2, 3, 4, 5, 6, 7, 8], [0, 0, 0, 0, 0, 0, 0, -1], -8),
            ([1, -1] * 4, [1] * 8, 0), ([GREATEST], [-GREATEST], -GREATEST ** 2),
            ([GREATEST, GREAT], [GREAT, -GREATEST], 0), ([GREATEST, GREAT], [1, 1], GREATEST + GREAT),
            ([GREATEST] * 8, [GREATEST] * 8, 8 * GREATEST ** 2),
        ):
            with self.subTest(weights=weights, basket=basket):
                scale = Line(weights)
                self.assertEqual(scale.weigh(basket), weight)
                self.assertIs(scale.levels(basket), weight == 0)

    def test_levels_tells_true_or_false_itself(self):
        scale = Line([2, 3])
        self.assertIs(scale.levels([3, -2]), True)
        self.assertIs(scale.levels([0, 0]), True)
        self.assertIs(scale.levels([1, 0]), False)
        self.assertIs(scale.levels([-1, 0]), False)

    def test_two_lines_keep_their_weights_apart(self):
        one, other = Line([1, 2]), Line([3, 4])
        self.assertEqual((one.weigh([1, 1]), other.weigh([1, 1])), (3, 7))
        self.assertEqual((one.weights, other.weights), ([1, 2], [3, 4]))


class Rests(unittest.TestCase):
    def test_weights_are_rests(self):
        for rest, weights, told in (
            (2, [0], [0]), (2, [1], [1]), (2, [-1], [1]), (2, [2], [0]), (5, [7, -7, 5, -5, 4], [2, 3, 0, 0, 4]),
            (12, list(range(-4, 4)), [8, 9, 10, 11, 0, 1, 2, 3]), (GREATEST, [-1, GREATEST, 1], [GREATEST - 1, 0, 1]),
            (3, [GREATEST, -GREAT], [0, 1]), (GREAT, [GREAT + 5, -GREAT - 5], [5, GREAT - 5]),
            (GREATEST ** 2, [-1], [GREATEST ** 2 - 1]),
        ):
            with self.subTest(rest=rest, weights=weights):
                scale = Rest(rest, weights)
                self.assertEqual(scale.weights, told)
                self.assertEqual(scale.rest, rest)

    def test_weigh(self):
        for rest, weights, basket, weight in (
            (2, [1], [1], 1), (2, [1], [-1], 1), (2, [1], [2], 0), (2, [0], [1], 0), (5, [3], [4], 2),
            (5, [3], [-4], 3), (5, [-3], [4], 3), (7, [1, 12, 15], [-1, 0, 0], 6), (7, [1, 12, 15], [1, 1, 1], 0),
            (7, [1, 12, 15], [0, 0, -2], 5), (100, [1, 2, 3, 4, 5, 6, 7, 8], [8, 7, 6, 5, 4, 3, 2, 1], 20),
            (9, [1, 2, 3, 4, 5, 6, 7, 8], [0, 0, 0, 0, 0, 0, 0, -1], 1),
            (GREATEST, [GREATEST - 1], [1], GREATEST - 1), (GREATEST, [1], [-1], GREATEST - 1),
            (GREATEST, [5], [GREATEST], 0), (GREAT, [GREATEST, 3], [GREAT, -1], GREAT - 3),
            (10 ** 59, [GREATEST] * 8, [GREATEST] * 8, 8),
        ):
            with self.subTest(rest=rest, weights=weights, basket=basket):
                scale = Rest(rest, weights)
                self.assertEqual(scale.weigh(basket), weight)
                self.assertIs(scale.levels(basket), weight == 0)

    def test_what_it_weighs_is_from_0_to_the_rest_less_1(self):
        for rest in (2, 3, 10, GREAT):
            scale = Rest(rest, [5, -7])
            for a, b in itertools.product((-GREATEST, -11, -1, 0, 1, 2, 12, GREATEST), repeat=2):
                weight = scale.weigh([a, b])
                self.assertLessEqual(0, weight)
                self.assertLess(weight, rest)
                self.assertEqual((weight - 5 * a + 7 * b) % rest, 0)
                self.assertIs(scale.levels([a, b]), (5 * a - 7 * b) % rest == 0)

    def test_levels_tells_true_or_false_itself(self):
        scale = Rest(6, [2, 3])
        self.assertIs(scale.levels([3, 0]), True)
        self.assertIs(scale.levels([-3, -2]), True)
        self.assertIs(scale.levels([1, 0]), False)
        self.assertIs(scale.levels([-1, -1]), False)

    def test_bad_rest(self):
        for rest in (1, 0, -1, -2, -7, -GREATEST):
            for weights in ([1], [0], [1, 2, 3], [GREATEST] * 8):
                with self.subTest(rest=rest, weights=weights):
                    self.assertRaises(BadRest, Rest, rest, weights)
        self.assertEqual(Rest(2, [1]).rest, 2)


class BadLoads(unittest.TestCase):
    def test_a_number_less_or_more(self):
        for many in (1, 2, 3, 8):
            weights = list(range(1, many + 1))
            for scale in (Line(weights), Rest(5, weights), Rest(2, [0] * many), Line([0] * many)):
                for wrong in (many - 1, many + 1, 0, 240):
                    with self.subTest(weights=scale.weights, wrong=wrong):
                        self.assertRaises(BadBasket, scale.weigh, [0] * wrong)
                        self.assertRaises(BadBasket, scale.levels, [0] * wrong)
                        self.assertRaises(BadBasket, scale.weigh, [1] * wrong)
                        self.assertRaises(BadBasket, scale.levels, [1] * wrong)


class Fair(unittest.TestCase):
    def test_lines(self):
        for weights, told in (([1, 12, 15], None), ([-2, -24, -30], None), ([0, 0, 0], None), ([1, 12, 16], 0),
                              ([1, 11, 14], 1), ([1, 1, 1], 0), ([0, 1, 1], 1), ([1, 1, 4], 1), ([0, 0, 1], 0)):
            with self.subTest(weights):
                self.assertEqual(fair(market(), Line(weights)), told)

    def test_rests(self):
        for rest, weights, told in (
            (2, [1, 0, 1], None), (2, [1, 1, 0], 1), (7, [1, 5, 1], None), (7, [1, 12, 15], None),
            (7, [1, 5, 2], 0), (3, [0, 0, 0], None), (13, [1, -1, 2], None), (13, [1, 1, 4], 1),
        ):
            with self.subTest(rest=rest, weights=weights):
                self.assertEqual(fair(market(), Rest(rest, weights)), told)

    def test_the_first_swap_that_is_not_levelled(self):
        level, not_level = [1, -1], [1, 1]
        for place in range(12):
            for behind in (level, not_level):
                book = book_of(2, [level] * place + [not_level] + [behind] * (11 - place))
                for scale in (Line([1, 1]), Rest(5, [1, 1]), Line([-GREATEST, -GREATEST])):
                    told = fair(book, scale)
                    self.assertEqual(told, place)
                    self.assertIs(type(told), int)
                self.assertIsNone(fair(book, Rest(2, [1, 1])))
                self.assertIsNone(fair(book, Line([0, 0])))

    def test_no_swap_and_swaps_of_noughts(self):
        for many in (1, 8):
            for swaps in ([], [[0] * many], [[0] * many] * 12):
                self.assertIsNone(fair(book_of(many, swaps), Line([GREATEST] * many)))
                self.assertIsNone(fair(book_of(many, swaps), Rest(2, [1] * many)))

    def test_great_numbers(self):
        book = book_of(2, [[GREATEST, -GREAT]])
        self.assertIsNone(fair(book, Line([GREAT, GREATEST])))
        self.assertEqual(fair(book, Line([GREAT, GREATEST - 1])), 0)
        self.assertIsNone(fair(book, Rest(GREATEST, [1, 0])))
        self.assertEqual(fair(book, Rest(GREATEST, [0, 1])), 0)

    def test_a_fair_scale_levels_all_that_is_worth_nothing(self):
        book = market()
        scale = Line([1, 12, 15])
        for way in itertools.product(range(-3, 4), repeat=2):
            self.assertTrue(scale.levels(led(book, [0, 0, 0], list(way))))

    def test_bad_scale(self):
        for many in (1, 2, 3, 7, 8):
            for swaps in ([], [[1] * many], [[0] * many]):
                book = book_of(many, swaps)
                for wrong in (many - 1, many + 1):
                    if not 1 <= wrong <= 8:
                        continue
                    for scale in (Line([0] * wrong), Rest(2, [0] * wrong), Line([1] * wrong), Rest(9, [1] * wrong)):
                        with self.subTest(many=many, wrong=wrong, swaps=swaps):
                            self.assertRaises(BadScale, fair, book, scale)


class Parting(unittest.TestCase):
    def assert_parting(self, book, one, other, turn):
        """turn: how many times the difference is taken until it is worth nothing; 0 for never."""
        difference = [b - a for a, b in zip(one, other)]
        told = parting(book, one, other)
        if turn == 1:
            self.assertIsNone(told)
            self.assertIsNotNone(road(book, one, other))
            return None
        self.assertIs(type(told), Rest if turn else Line)
        self.assertIsInstance(told, Scale)
        self.assertEqual(len(told.weights), book.many)
        self.assertIsNone(fair(book, told))
        self.assertIs(told.levels(difference), False)
        self.assertIsNone(road(book, one, other))
        if turn:
            self.assertEqual(told.weights, [weight % told.rest for weight in told.weights])
            self.assertIsNotNone(road(book, [0] * book.many, [number * turn for number in difference]))
        return told

    def test_the_market(self):
        book = market()
        for one, other, turn in (
            ([15, 0, 0], [0, 0, 1], 1), ([0, 0, 1], [15, 0, 0], 1), ([4, -5, 6], [4, -5, 6], 1),
            ([14, 0, 0], [0, 0, 1], 0), ([0, 0, 0], [1, 0, 0], 0), ([1, 0, 0], [0, 0, 0], 0), ([0, 5, 0], [0, 0, 5], 0),
        ):
            with self.subTest(one=one, other=other):
                told = self.assert_parting(book, one, other, turn)
                if told is not None:
                    # Eggs, hens and goats have one price each, up to a common factor.
                    self.assertEqual(told.weights, [told.weights[0] * price for price in (1, 12, 15)])

    def test_small_books(self):
        baskets = [list(basket) for basket in itertools.product(range(-4, 5), repeat=2)]
        for swaps, turn in SMALL:
            book = book_of(2, swaps)
            for one in ([0, 0], [3, -2], [-1, 4]):
                for other in baskets:
                    with self.subTest(swaps=swaps, one=one, other=other):
                        self.assert_parting(book, one, other, turn(other[0] - one[0], other[1] - one[1]))

    def test_one_ware(self):
        for swaps, number in (([[6], [10]], 2), ([[-7]], 7), ([[1]], 1), ([[12], [12], [0]], 12)):
            book = book_of(1, swaps)
            for a, b in itertools.product(range(-7, 8), repeat=2):
                turn = next(many for many in range(1, 13) if (b - a) * many % number == 0)
                self.assert_parting(book, [a], [b], turn)
        for swaps in ([], [[0]], [[0]] * 12):
            self.assert_parting(book_of(1, swaps), [3], [4], 0)
            self.assert_parting(book_of(1, swaps), [4], [4], 1)

    def test_no_swap_and_swaps_of_noughts(self):
        for swaps in ([], [[0] * 8], [[0] * 8] * 12):
            book = book_of(8, swaps)
            one = list(range(-3, 5))
            self.assert_parting(book, one, list(one), 1)
            for place in range(8):
                for number in (-GREATEST, -1, 1, GREATEST):
                    other = list(one)
                    other[place] += number
                    self.assert_parting(book, one, other, 0)

    def test_8_wares_and_12_swaps(self):
        chance = random.Random(15)
        for most in (1, 9, GREATEST):
            swaps = [[chance.randrange(-most, most + 1) for ware in range(8)] for swap in range(9)]
            # Three that hang together with the others, and each weighs an even number where each ware weighs 1.
            for swap in swaps:
                swap[chance.randrange(8)] += sum(swap) % 2
            swaps += [[0] * 8, list(swaps[0]), [a - 3 * b for a, b in zip(swaps[1], swaps[2])]]
            book = book_of(8, swaps)
            for again in range(4):
                one = [chance.randrange(-most, most + 1) for ware in range(8)]
                other = led(book, one, [chance.randrange(-most, most + 1) for swap in swaps])
                self.assert_parting(book, one, other, 1)
                other[again] += 1
                told = parting(book, one, other)
                self.assertIs(type(told), Rest)
                self.assertIsNone(fair(book, told))
                self.assertFalse(told.levels([b - a for a, b in zip(one, other)]))

    def test_fewer_steps_than_wares(self):
        chance = random.Random(16)
        for most in (2, 50, GREATEST):
            # The last ware has no part in any swap; the others come to nothing only 3 by 3.
            swaps = [[3 * chance.randrange(-most, most + 1) for ware in range(7)] + [0] for swap in range(12)]
            book = book_of(8, swaps)
            one = [chance.randrange(-most, most + 1) for ware in range(8)]
            for place in range(8):
                other = led(book, one, [chance.randrange(-most, most + 1) for swap in swaps])
                other[place] += 1
                told = parting(book, one, other)
                self.assertIs(type(told), Line if place == 7 else Rest)
                self.assertIsNone(fair(book, told))
                self.assertFalse(told.levels([b - a for a, b in zip(one, other)]))

    def test_great_numbers(self):
        self.assert_parting(book_of(1, [[GREATEST]]), [0], [GREATEST], 1)
        self.assert_parting(book_of(1, [[GREATEST]]), [0], [1], GREATEST)
        self.assert_parting(book_of(1, [[GREATEST]]), [-1], [0], GREATEST)
        self.assert_parting(book_of(2, [[GREATEST, 1], [0, GREAT]]), [0, 0], [1, 0], GREATEST * GREAT)
        self.assert_parting(book_of(2, [[GREATEST, GREAT]]), [0, 0], [GREAT, GREATEST], 0)
        self.assert_parting(book_of(2, [[GREATEST, GREAT]]), [-GREATEST, -GREAT], [GREATEST, GREAT], 1)
        self.assert_parting(book_of(2, [[2 * GREAT, 4]]), [GREAT, 2], [0, 0], 2)

    def test_one_of_both_a_road_or_a_scale(self):
        chance = random.Random(17)
        for again in range(300):
            many = chance.randrange(1, 5)
            book = book_of(many, [[chance.randrange(-4, 5) for ware in range(many)]
                                  for swap in range(chance.randrange(6))])
            one = [chance.randrange(-9, 10) for ware in range(many)]
            other = [chance.randrange(-9, 10) for ware in range(many)]
            told = parting(book, one, other)
            self.assertEqual(told is None, road(book, one, other) is not None)
            self.assertEqual(told is None, home(book, one) == home(book, other))

    def test_told_numbers_handed_in_again(self):
        book = book_of(2, [[GREATEST, 1], [0, GREAT]])
        scale = parting(book, [0, 0], [1, 0])
        far = [scale.rest, scale.weights[0] - scale.weights[1]]
        told = parting(book, [0, 0], far)
        self.assertEqual(told is None, road(book, [0, 0], far) is not None)
        if told is not None:
            self.assertIsNone(fair(book, told))
            self.assertFalse(told.levels(far))
        self.assertIsNone(fair(book, Rest(scale.rest, scale.weights)))
        self.assertEqual(Rest(scale.rest, scale.weights).weights, scale.weights)
        self.assertEqual(scale.weigh(led(book, [1, 0], [scale.rest, -scale.rest])), scale.weigh([1, 0]))


class BadBaskets(unittest.TestCase):
    WRONG = ([], [1], [1, 2], [1, 2, 3, 4], [0] * 8, [0] * 240)

    def test_parting(self):
        for wrong in self.WRONG:
            for book in (market(), book_of(3, []), book_of(3, units(3)), book_of(3, units(3, 2))):
                with self.subTest(wrong=wrong, swaps=book.swaps):
                    self.assertRaises(BadBasket, parting, book, wrong, [1, 2, 3])
                    self.assertRaises(BadBasket, parting, book, [1, 2, 3], wrong)
                    self.assertRaises(BadBasket, parting, book, wrong, wrong)
                    self.assertRaises(BadBasket, parting, book, wrong, [1, 2])

    def test_one_ware_and_8(self):
        for many in (1, 8):
            book = book_of(many, [[1] * many])
            right = [0] * many
            for wrong in ([0] * (many - 1), [0] * (many + 1)):
                self.assertRaises(BadBasket, parting, book, wrong, right)
                self.assertRaises(BadBasket, parting, book, right, wrong)
                self.assertRaises(BadBasket, parting, book, wrong, wrong)


class BehindARefusal(unittest.TestCase):
    def test_everything_is_answered_as_if_nothing_had_been_refused(self):
        book, line, rest = market(), Line([1, 12, 15]), Rest(7, [1, 1, 4])
        short, basket, other = [1, 2], [1, 0, 0], [0, 0, 0]

        def answers():
            return (line.weigh(basket), line.levels(basket), rest.weigh(basket), rest.levels(basket), fair(book, line),
                    fair(book, rest), values(parting(book, basket, other)), parting(book, basket, basket),
                    values(line), values(rest), fields(book), list(basket), list(other), list(short))

        before = answers()
        for ask in (
            lambda: line.weigh(short), lambda: line.levels(short), lambda: rest.weigh(short),
            lambda: rest.levels(short), lambda: parting(book, short, basket), lambda: parting(book, basket, short),
        ):
            self.assertRaises(BadBasket, ask)
            self.assertEqual(answers(), before)
        for ask in (lambda: fair(book, Line(short)), lambda: fair(book, Rest(7, short))):
            self.assertRaises(BadScale, ask)
            self.assertEqual(answers(), before)
        self.assertRaises(BadRest, Rest, 1, basket)
        self.assertEqual(answers(), before)

    def test_what_is_mended_behind_a_refusal_is_taken(self):
        basket, weights = [15, 0], [1, 12]
        line = Line([1, 12, 15])
        self.assertRaises(BadBasket, line.weigh, basket)
        self.assertRaises(BadBasket, parting, market(), basket, [0, 0, 1])
        self.assertRaises(BadScale, fair, market(), Line(weights))
        basket.append(0)
        weights.append(15)
        self.assertEqual(line.weigh(basket), 15)
        self.assertIsNone(parting(market(), basket, [0, 0, 1]))
        self.assertIsNone(fair(market(), Line(weights)))


class OwnLists(unittest.TestCase):
    def test_weights_changed_behind_the_call(self):
        for change in (lambda some: some.clear(), lambda some: some.append(9), lambda some: some.reverse()):
            weights = [1, 2, 3]
            line, rest, whole = Line(weights), Rest(2, weights), Rest(9, weights)
            change(weights)
            self.assertEqual((line.weights, rest.weights, whole.weights), ([1, 2, 3], [1, 0, 1], [1, 2, 3]))
            self.assertEqual((line.weigh([1, 1, 1]), rest.weigh([1, 1, 2]), whole.weigh([1, 1, 1])), (6, 1, 6))
            self.assertRaises(BadBasket, line.weigh, [1, 1])
            self.assertIsNone(fair(book_of(3, [[1, 1, -1]]), whole))

    def test_what_is_handed_in_stays_as_it_was(self):
        for swaps in (MARKET, [], [[0, 0, 0]], units(3), units(3, 2), [[2, 0, 0]] * 2):
            for first, second in (([4, 5, 6], [4, 5, 6]), ([0, 0, 0], [-7, 8, 1]), ([0, 0, 1], [15, 0, 0])):
                with self.subTest(swaps=swaps, first=first):
                    book, one, other, weights = book_of(3, swaps), list(first), list(second), [1, -12, 15]
                    line, rest = Line(weights), Rest(7, weights)
                    for scale in (line, rest):
                        scale.weigh(one)
                        scale.levels(one)
                        fair(book, scale)
                    parting(book, one, other)
                    parting(book, one, one)
                    self.assertEqual((one, other, weights), (first, second, [1, -12, 15]))
                    self.assertEqual(fields(book), (3, swaps))
                    self.assertEqual(values(line), (Line, [1, -12, 15], None))
                    self.assertEqual(values(rest), (Rest, [1, 2, 1], 7))

    def test_a_told_scale_stays_as_it_is(self):
        book, one, other = book_of(2, [[4, 0], [0, 6]]), [0, 0], [1, 1]
        told = parting(book, one, other)
        kept = values(told)
        one[0] = 7
        other.append(3)
        parting(book, [0, 0], [2, 3])
        self.assertEqual(values(told), kept)
        self.assertEqual(values(parting(book, [0, 0], [1, 1])), kept)

    def test_weights_of_one_scale_make_another(self):
        one = Line([1, -2])
        other = Rest(3, one.weights)
        third = Line(one.weights)
        self.assertEqual((one.weights, other.weights, third.weights), ([1, -2], [1, 1], [1, -2]))

    def test_swaps_changed_behind_the_book(self):
        swaps = [[2, 1], [0, 3]]
        book = book_of(2, swaps)
        swaps[0][0] = 7
        swaps.pop()
        self.assertIsNone(fair(book, Rest(6, [1, 4])))
        self.assertEqual(fair(book, Rest(7, [1, 0])), 0)
        self.assertIsNone(parting(book, [0, 0], [2, 4]))
        self.assertIs(type(parting(book, [0, 0], [0, 1])), Rest)


if __name__ == "__main__":
    unittest.main()
