import inspect
import itertools
import random
import unittest

from swapbook.books import book_of, led
from swapbook.errors import BadBasket, Endless, TooGreat
from swapbook.homes import home, homes, many_homes, road
from swapbook.stairs import stairs

GREAT = 10 ** 59 + 7
GREATEST = 10 ** 60 - 1

# Wares: egg, hen, goat. Three eggs and a hen for a goat; twelve eggs for a hen. So a goat is worth 15 eggs.
MARKET = [[-3, -1, 1], [-12, 1, 0]]


def market():
    return book_of(3, [list(swap) for swap in MARKET])


def fields(book):
    return book.many, [list(swap) for swap in book.swaps]


def squares(numbers):
    """A book whose swaps bring so many of one ware each."""
    return book_of(len(numbers), [[number if place == k else 0 for place in range(len(numbers))]
                                  for k, number in enumerate(numbers)])


# Books, and of a basket whether it is worth nothing, reckoned by hand.
SMALL = (
    (2, [[2, 1], [0, 3]], lambda a, b: a % 2 == 0 and (b - a // 2) % 3 == 0),
    (2, [[0, -3], [-2, -1], [2, 4]], lambda a, b: a % 2 == 0 and (b - a // 2) % 3 == 0),
    (2, [[4, -2], [-6, 3]], lambda a, b: a == -2 * b),
    (2, [[4, -2], [-8, 4], [0, 0]], lambda a, b: a == -2 * b and b % 2 == 0),
    (2, [[0, 4], [0, 6]], lambda a, b: a == 0 and b % 2 == 0),
    (2, [[3, 0], [3, 0], [-3, 0]], lambda a, b: a % 3 == 0 and b == 0),
    (2, [[5, 0], [0, 5], [1, 2]], lambda a, b: (b - 2 * a) % 5 == 0),
    (2, [[2, 1], [3, 2]], lambda a, b: True),
    (2, [[0, 0], [0, 0]], lambda a, b: a == 0 and b == 0),
    (2, [], lambda a, b: a == 0 and b == 0),
)


class Checks(unittest.TestCase):
    def assert_home(self, book, basket):
        told = home(book, basket)
        flight = stairs(book)
        self.assertEqual(len(told), book.many)
        for step, head in zip(flight.steps, flight.heads):
            self.assertGreaterEqual(told[head], 0)
            self.assertLess(told[head], step[head])
        self.assertEqual(home(book, told), told)
        self.assert_road(book, basket, told)
        self.assert_road(book, told, basket)
        return told

    def assert_road(self, book, one, other):
        told = road(book, one, other)
        self.assertIsNotNone(told)
        self.assertEqual(len(told), len(book.swaps))
        self.assertEqual(led(book, one, told), other)


class Interface(unittest.TestCase):
    def test_arguments_bear_their_names(self):
        self.assertEqual(list(inspect.signature(home).parameters), ["book", "basket"])
        self.assertEqual(list(inspect.signature(road).parameters), ["book", "one", "other"])
        self.assertEqual(list(inspect.signature(many_homes).parameters), ["book"])
        self.assertEqual(list(inspect.signature(homes).parameters), ["book"])

    def test_kinds(self):
        book = book_of(2, [[2, 1], [0, 3]])
        for told in [home(book, [1, 0]), home(book_of(1, []), [1]), road(book, [0, 0], [2, 1])] + homes(book):
            self.assertIs(type(told), list)
            for number in told:
                self.assertIs(type(number), int)
        self.assertIs(type(homes(book)), list)
        for many in (many_homes(book), many_homes(book_of(1, [[1]]))):
            self.assertIs(type(many), int)
        self.assertIs(type(road(book_of(1, []), [1], [1])), list)


class Home(Checks):
    def test_the_market(self):
        book = market()
        for basket, told in (
            ([0, 0, 0], [0, 0, 0]),
            ([15, 0, 0], [0, 0, 1]),
            ([0, 0, 1], [0, 0, 1]),
            ([30, 0, 0], [0, 0, 2]),
            ([3, 1, -1], [0, 0, 0]),
            ([1, 0, 0], [1, 0, 0]),
            ([-1, 0, 0], [2, 1, -1]),
            ([0, -1, 0], [0, 4, -4]),
            ([2, 4, -7], [2, 4, -7]),
        ):
            with self.subTest(basket):
                self.assertEqual(self.assert_home(book, basket), told)

    def test_one_ware(self):
        book = book_of(1, [[6], [-10]])
        for number in range(-9, 10):
            self.assertEqual(self.assert_home(book, [number]), [number % 2])

    def test_a_book_without_steps(self):
        for many in (1, 8):
            for swaps in ([], [[0] * many], [[0] * many] * 12):
                book = book_of(many, swaps)
                for basket in ([0] * many, list(range(-3, many - 3)), [-GREATEST] * many):
                    self.assertEqual(self.assert_home(book, basket), basket)

    def test_heads_with_gaps(self):
        book = book_of(4, [[0, 3, -1, 0], [0, 0, 0, 2]])
        self.assertEqual(self.assert_home(book, [-5, 7, 4, -1]), [-5, 1, 6, 1])
        self.assertEqual(self.assert_home(book, [5, -1, -4, 3]), [5, 2, -5, 1])

    def test_small_books(self):
        for many, swaps, worth_nothing in SMALL:
            book = book_of(many, swaps)
            baskets = [list(basket) for basket in itertools.product(range(-4, 5), repeat=many)]
            told = [self.assert_home(book, basket) for basket in baskets]
            with self.subTest(swaps):
                for one, first in zip(baskets, told):
                    for other, second in zip(baskets, told):
                        self.assertEqual(first == second, worth_nothing(other[0] - one[0], other[1] - one[1]))

    def test_8_wares_and_12_swaps(self):
        chance = random.Random(10)
        for most in (3, 50, GREATEST):
            swaps = [[chance.randrange(-most, most + 1) for ware in range(8)] for swap in range(12)]
            book = book_of(8, swaps)
            for again in range(5):
                basket = [chance.randrange(-most, most + 1) for ware in range(8)]
                way = [chance.randrange(-most, most + 1) for swap in swaps]
                told = self.assert_home(book, basket)
                self.assertEqual(home(book, led(book, basket, way)), told)

    def test_swaps_turned_about_and_in_another_order(self):
        swaps = [[4, -6, 3], [6, 1, 0], [0, 10, -9]]
        basket = [17, -23, 5]
        told = self.assert_home(book_of(3, swaps), basket)
        for order in itertools.permutations(swaps):
            turned = [[-number for number in swap] for swap in order]
            self.assertEqual(home(book_of(3, list(order)), basket), told)
            self.assertEqual(home(book_of(3, turned + [swaps[0], [0, 0, 0]]), basket), told)

    def test_great_numbers(self):
        book = book_of(2, [[GREATEST, 1], [0, GREAT]])
        self.assertEqual(self.assert_home(book, [-1, 0]), [GREATEST - 1, 1])
        self.assertEqual(self.assert_home(book, [GREATEST, 0]), [0, GREAT - 1])
        self.assertEqual(self.assert_home(book, [GREATEST - 1, GREAT - 1]), [GREATEST - 1, GREAT - 1])

    def test_told_numbers_handed_in_again(self):
        book = book_of(2, [[GREATEST, 1], [0, GREAT]])
        far = led(book, [5, 6], [GREATEST, -GREATEST])
        self.assertEqual(home(book, led(book, far, far)), [5, 6])
        told = road(book, [5, 6], led(book, far, far))
        self.assertEqual(led(book, [5, 6], told), led(book, far, far))


class Road(Checks):
    def test_the_market(self):
        book = market()
        # These swaps do not hang together: there is one road at most.
        self.assertEqual(road(book, [30, 0, 0], [3, 1, 1]), [1, 2])
        self.assertEqual(road(book, [3, 1, 1], [30, 0, 0]), [-1, -2])
        self.assertEqual(road(book, [15, 0, 0], [0, 0, 1]), [1, 1])
        self.assertIsNone(road(book, [14, 0, 0], [0, 0, 1]))
        self.assertIsNone(road(book, [0, 0, 0], [1, 0, 0]))
        self.assertIsNone(road(book, [1, 0, 0], [0, 0, 0]))

    def test_to_the_basket_itself(self):
        self.assertEqual(road(market(), [4, -5, 6], [4, -5, 6]), [0, 0])
        self.assert_road(book_of(1, [[2], [2]]), [7], [7])
        self.assertEqual(road(book_of(1, []), [7], [7]), [])

    def test_a_book_without_steps(self):
        for many in (1, 8):
            for swaps in ([], [[0] * many] * 3, [[0] * many] * 12):
                book = book_of(many, swaps)
                self.assert_road(book, [3] * many, [3] * many)
                self.assertIsNone(road(book, [3] * many, [3] * (many - 1) + [4]))
                self.assertIsNone(road(book, [2] + [3] * (many - 1), [3] * many))

    def test_small_books(self):
        for many, swaps, worth_nothing in SMALL:
            book = book_of(many, swaps)
            baskets = [list(basket) for basket in itertools.product(range(-3, 4), repeat=many)]
            with self.subTest(swaps):
                for one in ([0, 0], [1, -2], [-3, 0]):
                    for other in baskets:
                        if worth_nothing(other[0] - one[0], other[1] - one[1]):
                            self.assertEqual(home(book, one), home(book, other))
                            self.assert_road(book, one, other)
                            self.assert_road(book, other, one)
                        else:
                            self.assertNotEqual(home(book, one), home(book, other))
                            self.assertIsNone(road(book, one, other))
                            self.assertIsNone(road(book, other, one))

    def test_swaps_that_hang_together(self):
        book = book_of(2, [[4, 6], [6, 9], [10, 15], [4, 6], [0, 0], [-4, -6]])
        for many in (-7, -1, 1, 2, 3, GREATEST):
            self.assert_road(book, [1, 1], [1 + 2 * many, 1 + 3 * many])
        self.assertIsNone(road(book, [1, 1], [2, 2]))
        self.assertIsNone(road(book, [1, 1], [3, 5]))

    def test_12_swaps(self):
        chance = random.Random(12)
        for many, most in ((1, 9), (1, 10 ** 59), (5, 9), (8, 9), (8, 10 ** 59)):
            book = book_of(many, [self.level(chance, many, most) for swap in range(12)])
            for again in range(4):
                one = [chance.randrange(-most, most + 1) for ware in range(many)]
                other = led(book, one, [chance.randrange(-most, most + 1) for swap in range(12)])
                self.assert_road(book, one, other)
                self.assert_road(book, other, one)
                self.assertEqual(home(book, one), home(book, other))
                # The two differ then by what weighs no multiple of 3, so that no swaps come to it.
                other[-1] += 1
                self.assertIsNone(road(book, one, other))
                self.assertNotEqual(home(book, one), home(book, other))

    def level(self, chance, many, most):
        """A swap that weighs a multiple of 3, where each ware weighs 1."""
        swap = [chance.randrange(-most, most + 1) for ware in range(many)]
        swap[0] -= sum(swap) % 3
        return swap

    def test_great_numbers(self):
        book = book_of(1, [[GREATEST], [GREATEST - 1]])
        self.assert_road(book, [0], [1])
        self.assert_road(book, [GREATEST], [-GREATEST])
        book = book_of(1, [[GREATEST * 3], [GREAT * 3]])
        self.assertIsNone(road(book, [0], [10 ** 59]))
        self.assertIsNone(road(book, [10 ** 59], [0]))


class ManyHomes(unittest.TestCase):
    def test_as_many_steps_as_wares(self):
        for many, swaps, told in (
            (1, [[1]], 1), (1, [[-7]], 7), (1, [[6], [10], [15]], 1), (1, [[6], [10]], 2),
            (2, [[2, 1], [0, 3]], 6), (2, [[2, 1], [3, 2]], 1), (2, [[5, 0], [0, 5], [1, 2]], 5),
            (2, [[1, 1], [1, -1]], 2), (3, [[0, 0, 2], [0, 3, 1], [5, 1, 1]], 30),
            (3, [[0, 0, 2], [0, 3, 1], [0, 0, 0], [5, 1, 1], [5, 4, 2], [-10, -2, -2]], 30),
        ):
            with self.subTest(swaps):
                self.assertEqual(many_homes(book_of(many, swaps)), told)

    def test_fewer_steps_than_wares(self):
        for many, swaps in (
            (1, []), (1, [[0]]), (8, []), (2, [[0, 0]] * 12), (2, [[2, 1]]), (2, [[2, 1], [4, 2], [-2, -1]]),
            (2, [[0, 1], [0, 7]]), (3, MARKET), (3, [[1, 2, 3], [4, 5, 6], [7, 8, 9]]),
            (8, [[1 if place == k else 0 for place in range(8)] for k in range(7)]),
            (8, [[(w + 2) * k for w in range(8)] for k in range(12)]),
        ):
            with self.subTest(swaps):
                self.assertIsNone(many_homes(book_of(many, swaps)))

    def test_great_numbers(self):
        self.assertEqual(many_homes(book_of(1, [[-GREATEST]])), GREATEST)
        self.assertEqual(many_homes(squares([GREATEST] * 8)), GREATEST ** 8)
        self.assertEqual(many_homes(book_of(2, [[GREATEST, GREAT], [GREAT, GREATEST]])), GREATEST ** 2 - GREAT ** 2)

    def test_just_200_and_201(self):
        self.assertEqual(many_homes(book_of(1, [[200]])), 200)
        self.assertEqual(many_homes(book_of(1, [[201]])), 201)


class Homes(unittest.TestCase):
    def assert_all_homes(self, book):
        told = homes(book)
        self.assertEqual(len(told), many_homes(book))
        for one, other in zip(told, told[1:]):
            self.assertLess(one, other)
        for basket in told:
            self.assertEqual(len(basket), book.many)
            self.assertEqual(home(book, basket), basket)
        return told

    def test_by_hand(self):
        for many, swaps, told in (
            (1, [[1]], [[0]]),
            (1, [[-3]], [[0], [1], [2]]),
            (1, [[6], [10]], [[0], [1]]),
            (2, [[2, 1], [0, 3]], [[0, 0], [0, 1], [0, 2], [1, 0], [1, 1], [1, 2]]),
            (2, [[0, 3], [2, 1], [2, 4], [0, 0]], [[0, 0], [0, 1], [0, 2], [1, 0], [1, 1], [1, 2]]),
            (2, [[2, 1], [3, 2]], [[0, 0]]),
            (2, [[5, 0], [0, 5], [1, 2]], [[0, 0], [0, 1], [0, 2], [0, 3], [0, 4]]),
            (3, [[2, 0, 0], [0, 1, 0], [0, 0, 2]], [[0, 0, 0], [0, 0, 1], [1, 0, 0], [1, 0, 1]]),
        ):
            with self.subTest(swaps):
                self.assertEqual(self.assert_all_homes(book_of(many, swaps)), told)

    def test_each_basket_has_its_home_among_them(self):
        for swaps in ([[2, 1], [0, 3]], [[3, 1], [1, -3]], [[-4, 2], [3, 3], [7, 1]]):
            book = book_of(2, swaps)
            told = self.assert_all_homes(book)
            met = {tuple(home(book, [a, b])) for a in range(-9, 10) for b in range(-9, 10)}
            self.assertEqual([list(basket) for basket in sorted(met)], told)
            for one, other in itertools.permutations(told, 2):
                self.assertIsNone(road(book, one, other))

    def test_just_200(self):
        self.assertEqual(homes(book_of(1, [[200]])), [[number] for number in range(200)])
        for numbers in ([2, 100], [100, 2], [5, 8, 5], [1, 1, 2, 2, 2, 5, 5, 1]):
            with self.subTest(numbers):
                told = self.assert_all_homes(squares(numbers))
                self.assertEqual(told, [list(some) for some in itertools.product(*[range(most) for most in numbers])])

    def test_8_wares_and_12_swaps(self):
        swaps = squares([1, 1, 2, 1, 3, 1, 1, 4]).swaps
        more = [[1, 0, 2, 0, 3, 0, 0, -4], [0] * 8, [0, 0, 4, 0, -9, 1, 1, 8], [5, -6, 0, 0, 0, 0, 0, 12]]
        told = self.assert_all_homes(book_of(8, more + swaps[::-1]))
        self.assertEqual(len(told), 24)
        self.assertEqual((told[0], told[-1]), ([0] * 8, [0, 0, 1, 0, 2, 0, 0, 3]))

    def test_too_great(self):
        for numbers in ([201], [3, 67], [67, 3], [1, 1, 1, 201], [GREATEST], [GREATEST] * 8, [2] * 8, [201, 1]):
            with self.subTest(numbers):
                self.assertRaises(TooGreat, homes, squares(numbers))

    def test_endless(self):
        for many, swaps in (
            (1, []), (1, [[0]]), (8, []), (3, MARKET), (2, [[2, 1]]), (2, [[0, 1], [0, 7]]), (2, [[2, 1], [4, 2]]),
            (2, [[0, 201]]), (2, [[GREATEST, 1]]), (8, [[0] * 8] * 12),
        ):
            with self.subTest(swaps):
                self.assertRaises(Endless, homes, book_of(many, swaps))


class BadBaskets(unittest.TestCase):
    WRONG = ([], [1], [1, 2], [1, 2, 3, 4], [0] * 8, [0] * 240)

    def test_home(self):
        for basket in self.WRONG:
            with self.subTest(basket):
                self.assertRaises(BadBasket, home, market(), basket)
                self.assertRaises(BadBasket, home, book_of(3, []), basket)

    def test_road(self):
        for basket in self.WRONG:
            for book in (market(), book_of(3, []), squares([1, 1, 1])):
                with self.subTest(basket=basket, swaps=book.swaps):
                    self.assertRaises(BadBasket, road, book, basket, [1, 2, 3])
                    self.assertRaises(BadBasket, road, book, [1, 2, 3], basket)
                    self.assertRaises(BadBasket, road, book, basket, basket)
                    self.assertRaises(BadBasket, road, book, basket, [1, 2])

    def test_one_ware_and_8(self):
        for many in (1, 8):
            book = book_of(many, [[1] * many])
            right = [0] * many
            for wrong in ([0] * (many - 1), [0] * (many + 1)):
                self.assertRaises(BadBasket, home, book, wrong)
                self.assertRaises(BadBasket, road, book, wrong, right)
                self.assertRaises(BadBasket, road, book, right, wrong)
                self.assertRaises(BadBasket, road, book, wrong, wrong)


class BehindARefusal(unittest.TestCase):
    def test_everything_is_answered_as_if_nothing_had_been_refused(self):
        book, small, great = market(), book_of(1, [[3]]), book_of(1, [[201]])
        basket, short = [-1, 0, 0], [1, 2]

        def answers():
            return (home(book, basket), road(book, [15, 0, 0], [0, 0, 1]), road(book, basket, [0, 0, 0]),
                    many_homes(book), many_homes(small), many_homes(great), homes(small), home(great, [-1]))

        before = answers()
        self.assertRaises(BadBasket, home, book, short)
        self.assertRaises(BadBasket, road, book, short, basket)
        self.assertRaises(BadBasket, road, book, basket, short)
        self.assertRaises(Endless, homes, book)
        self.assertRaises(TooGreat, homes, great)
        self.assertEqual(answers(), before)
        self.assertEqual((basket, short), ([-1, 0, 0], [1, 2]))
        self.assertEqual((fields(book), fields(small), fields(great)), ((3, MARKET), (1, [[3]]), (1, [[201]])))
        self.assertRaises(Endless, homes, book)
        self.assertRaises(TooGreat, homes, great)

    def test_a_basket_mended_behind_a_refusal_is_taken(self):
        book, basket = market(), [15, 0]
        self.assertRaises(BadBasket, home, book, basket)
        self.assertRaises(BadBasket, road, book, basket, [0, 0, 1])
        basket.append(0)
        self.assertEqual(home(book, basket), [0, 0, 1])
        self.assertEqual(road(book, basket, [0, 0, 1]), [1, 1])


class OwnLists(unittest.TestCase):
    BOOKS = ((3, MARKET), (3, []), (3, [[0, 0, 0]]), (3, [[1, 0, 0], [0, 1, 0], [0, 0, 1]]), (3, [[2, 0, 0]] * 2))

    def test_baskets_and_books_handed_in_stay_as_they_were(self):
        for many, swaps in self.BOOKS:
            for one, other in (([4, 5, 6], [4, 5, 6]), ([0, 0, 0], [-7, 8, 1]), ([0, 0, 1], [15, 0, 0])):
                with self.subTest(swaps=swaps, one=one):
                    book = book_of(many, swaps)
                    first, second = list(one), list(other)
                    home(book, first)
                    road(book, first, second)
                    many_homes(book)
                    self.assertEqual((first, second), (one, other))
                    self.assertEqual(fields(book), (many, swaps))

    def test_the_same_list_as_both_baskets(self):
        some = [4, 5, 6]
        self.assertEqual(road(market(), some, some), [0, 0])
        self.assertEqual(some, [4, 5, 6])

    def test_a_swap_of_the_book_as_basket(self):
        book = market()
        told = home(book, book.swaps[0])
        self.assertEqual(told, [0, 0, 0])
        told[0] = 9
        self.assertEqual(road(book, [0, 0, 0], book.swaps[1]), [0, 1])
        self.assertEqual(fields(book), (3, MARKET))

    def test_a_changed_home_changes_nothing(self):
        for many, swaps in self.BOOKS:
            for basket in ([0, 0, 0], [0, 0, 1], [40, -50, 60]):
                with self.subTest(swaps=swaps, basket=basket):
                    book, handed = book_of(many, swaps), list(basket)
                    told = home(book, handed)
                    kept = list(told)
                    told[0] = 1000
                    told.append(7)
                    self.assertEqual(handed, basket)
                    self.assertEqual(fields(book), (many, swaps))
                    self.assertEqual(home(book, handed), kept)

    def test_a_changed_road_changes_nothing(self):
        for many, swaps in self.BOOKS:
            with self.subTest(swaps):
                book, one, other = book_of(many, swaps), [4, 5, 6], [4, 5, 6]
                told = road(book, one, other)
                kept = list(told)
                told.append(7)
                told[0] = 1000
                self.assertEqual((one, other), ([4, 5, 6], [4, 5, 6]))
                self.assertEqual(fields(book), (many, swaps))
                again = road(book, one, other)
                self.assertEqual(len(again), len(kept))
                self.assertEqual(led(book, one, again), other)

    def test_changed_homes_change_nothing(self):
        book = book_of(2, [[2, 1], [0, 3]])
        told = homes(book)
        kept = [list(basket) for basket in told]
        for place, basket in enumerate(told):
            basket[0] = 50
            basket.append(9)
            self.assertEqual(told[place + 1:], kept[place + 1:])
        told.clear()
        self.assertEqual(fields(book), (2, [[2, 1], [0, 3]]))
        self.assertEqual(homes(book), kept)
        self.assertEqual(homes(book_of(2, [[2, 1], [0, 3]])), kept)
        self.assertEqual(home(book, [-1, 0]), [1, 1])

    def test_a_basket_changed_behind_the_call(self):
        book, one, other = market(), [15, 0, 0], [0, 0, 1]
        plain = [2, 3, 0]
        there, way, same = home(book, one), road(book, one, other), home(book, plain)
        one[0] = 30
        other[2] = 2
        plain[0] = 9
        self.assertEqual((there, way, same), ([0, 0, 1], [1, 1], [2, 3, 0]))
        self.assertEqual((home(book, one), road(book, one, other)), ([0, 0, 2], [2, 2]))

    def test_swaps_changed_behind_the_book(self):
        swaps = [[2, 1], [0, 3]]
        book = book_of(2, swaps)
        swaps[0][0] = 7
        swaps.pop()
        self.assertEqual(many_homes(book), 6)
        self.assertEqual(home(book, [3, 0]), [1, 2])
        self.assertEqual(road(book, [0, 0], [2, 4]), [1, 1])


if __name__ == "__main__":
    unittest.main()
