import inspect
import unittest

from swapbook.books import Book, book_of, led
from swapbook.errors import BadBasket, BadRoad, BadSwap, BadWares, TooMany

GREAT = 10 ** 59 + 7
GREATEST = 10 ** 60 - 1

# Wares: egg, hen, goat. Three eggs and a hen for a goat; twelve eggs for a hen.
MARKET = [[-3, -1, 1], [-12, 1, 0]]


def market():
    return book_of(3, [list(swap) for swap in MARKET])


def fields(book):
    return book.many, book.swaps


class Interface(unittest.TestCase):
    def test_arguments_bear_their_names(self):
        self.assertEqual(list(inspect.signature(book_of).parameters), ["many", "swaps"])
        self.assertEqual(list(inspect.signature(led).parameters), ["book", "basket", "road"])


class Books(unittest.TestCase):
    def test_a_book_has_its_fields(self):
        book = market()
        self.assertIsInstance(book, Book)
        self.assertEqual(fields(book), (3, [[-3, -1, 1], [-12, 1, 0]]))

    def test_kinds_of_the_fields(self):
        book = book_of(1, [[1], [0]])
        self.assertIs(type(book.many), int)
        self.assertIs(type(book.swaps), list)
        for swap in book.swaps:
            self.assertIs(type(swap), list)
            self.assertIs(type(swap[0]), int)

    def test_no_swap(self):
        for many in range(1, 9):
            self.assertEqual(fields(book_of(many, [])), (many, []))

    def test_each_number_of_wares_from_1_to_8(self):
        for many in range(1, 9):
            swap = list(range(many))
            self.assertEqual(fields(book_of(many, [swap])), (many, [swap]))

    def test_each_count_of_swaps_up_to_12(self):
        for count in range(13):
            swaps = [[place, -place] for place in range(count)]
            self.assertEqual(fields(book_of(2, swaps)), (2, swaps))

    def test_8_wares_and_12_swaps(self):
        swaps = [[ware * place - 20 for ware in range(8)] for place in range(12)]
        self.assertEqual(fields(book_of(8, swaps)), (8, swaps))

    def test_swaps_keep_their_order_and_those_alike_and_of_noughts_stay(self):
        swaps = [[5, 1], [0, 0], [-5, -1], [5, 1], [0, 0]]
        self.assertEqual(book_of(2, swaps).swaps, [[5, 1], [0, 0], [-5, -1], [5, 1], [0, 0]])

    def test_great_numbers(self):
        self.assertEqual(book_of(2, [[GREATEST, -GREAT]]).swaps, [[GREATEST, -GREAT]])

    def test_the_same_list_as_two_swaps(self):
        swap = [1, -2]
        book = book_of(2, [swap, swap])
        self.assertEqual(book.swaps, [[1, -2], [1, -2]])
        self.assertEqual(led(book, [0, 0], [1, 1]), [2, -4])

    def test_two_books_are_apart(self):
        one = book_of(1, [[2]])
        other = book_of(2, [[3, 4], [5, 6]])
        self.assertEqual(fields(one), (1, [[2]]))
        self.assertEqual(fields(other), (2, [[3, 4], [5, 6]]))
        self.assertEqual(led(one, [0], [1]), [2])
        self.assertEqual(led(other, [0, 0], [1, 0]), [3, 4])


class BookRefusals(unittest.TestCase):
    def place_of(self, many, swaps):
        with self.assertRaises(BadSwap) as caught:
            book_of(many, swaps)
        self.assertIs(type(caught.exception.place), int)
        return caught.exception.place

    def test_bad_wares(self):
        for many in (0, 9, -1, 10, -8, 12, GREATEST, -GREATEST):
            with self.subTest(many):
                self.assertRaises(BadWares, book_of, many, [])

    def test_bad_wares_though_the_swaps_have_as_many_numbers(self):
        self.assertRaises(BadWares, book_of, 0, [[], []])
        self.assertRaises(BadWares, book_of, 9, [[0] * 9])

    def test_too_many(self):
        for count in (13, 14, 24, 240):
            with self.subTest(count):
                self.assertRaises(TooMany, book_of, 2, [[1, -1] for place in range(count)])

    def test_too_many_for_each_number_of_wares(self):
        for many in range(1, 9):
            self.assertRaises(TooMany, book_of, many, [[0] * many] * 13)

    def test_bad_swap_first_within_and_last(self):
        for wrong in ([], [1, 2], [1, 2, 3, 4], [1] * 12):
            for count in (1, 2, 5, 12):
                for place in range(count):
                    with self.subTest(numbers=len(wrong), count=count, place=place):
                        swaps = [[1, 2, 3] for k in range(count)]
                        swaps[place] = wrong
                        self.assertEqual(self.place_of(3, swaps), place)

    def test_bad_swap_where_there_are_two(self):
        self.assertEqual(self.place_of(2, [[1, 2], [1], [1, 2], [1, 2, 3]]), 1)
        self.assertEqual(self.place_of(2, [[1, 2], [1, 2, 3], [1]]), 1)
        self.assertEqual(self.place_of(2, [[1], [1, 2], [1]]), 0)
        self.assertEqual(self.place_of(2, [[], []]), 0)
        self.assertEqual(self.place_of(2, [[1, 2]] * 10 + [[1, 2, 3], []]), 10)

    def test_bad_swap_with_1_and_8_wares(self):
        self.assertEqual(self.place_of(1, [[1], []]), 1)
        self.assertEqual(self.place_of(1, [[1, 0]]), 0)
        self.assertEqual(self.place_of(8, [[0] * 8, [0] * 7]), 1)
        self.assertEqual(self.place_of(8, [[0] * 9]), 0)

    def test_bad_swap_though_all_swaps_have_one_length(self):
        self.assertEqual(self.place_of(3, [[1, 2], [3, 4]]), 0)

    def test_bad_wares_ahead_of_too_many(self):
        for many in (0, 9):
            self.assertRaises(BadWares, book_of, many, [[0] * many] * 13)

    def test_bad_wares_ahead_of_bad_swap(self):
        for many in (-1, 0, 9):
            self.assertRaises(BadWares, book_of, many, [[1, 2]])

    def test_too_many_ahead_of_bad_swap(self):
        for place in (0, 5, 11, 12):
            swaps = [[1, 2] for k in range(13)]
            swaps[place] = [1]
            self.assertRaises(TooMany, book_of, 2, swaps)

    def test_bad_wares_ahead_of_both(self):
        for many in (0, 9):
            self.assertRaises(BadWares, book_of, many, [[1, 2]] * 13)


class Led(unittest.TestCase):
    def test_a_road_is_done(self):
        self.assertEqual(led(market(), [30, 0, 0], [1, 2]), [3, 1, 1])

    def test_below_nought_swaps_are_turned_about(self):
        self.assertEqual(led(market(), [0, 0, 2], [-2, 0]), [6, 2, 0])
        self.assertEqual(led(market(), [0, 0, 0], [-1, 1]), [-9, 2, -1])

    def test_each_swap_alone_in_its_place(self):
        swaps = [[place + 1, place * place, -place] for place in range(12)]
        book = book_of(3, swaps)
        for place in range(12):
            road = [0] * 12
            road[place] = 1
            self.assertEqual(led(book, [0, 0, 0], road), swaps[place])

    def test_all_swaps_at_once(self):
        book = book_of(8, [[place] * 8 for place in range(12)])
        self.assertEqual(led(book, list(range(8)), list(range(12))), [506 + ware for ware in range(8)])

    def test_a_road_of_noughts(self):
        self.assertEqual(led(market(), [4, -5, 0], [0, 0]), [4, -5, 0])

    def test_a_book_without_swaps(self):
        self.assertEqual(led(book_of(1, []), [7], []), [7])
        self.assertEqual(led(book_of(8, []), list(range(8)), []), list(range(8)))

    def test_the_way_back(self):
        book = market()
        there = led(book, [1, 2, 3], [5, -7])
        self.assertEqual(led(book, there, [-5, 7]), [1, 2, 3])

    def test_the_same_list_as_basket_and_road(self):
        some = [2, -3]
        self.assertEqual(led(book_of(2, [[1, 10], [100, 1000]]), some, some), [-296, -2983])
        self.assertEqual(some, [2, -3])

    def test_a_swap_of_the_book_as_basket(self):
        book = market()
        self.assertEqual(led(book, book.swaps[0], [1, 0]), [-6, -2, 2])
        self.assertEqual(book.swaps, MARKET)

    def test_great_numbers(self):
        book = book_of(2, [[GREATEST, 1], [-GREATEST, GREAT]])
        self.assertEqual(led(book, [5, -GREAT], [GREATEST, GREATEST]), [5, GREATEST + GREATEST * GREAT - GREAT])

    def test_told_numbers_handed_in_again(self):
        book = book_of(1, [[GREATEST]])
        told = led(book, [1], [GREATEST])
        self.assertEqual(told, [GREATEST ** 2 + 1])
        self.assertEqual(led(book, told, told), [(GREATEST ** 2 + 1) * (GREATEST + 1)])
        self.assertEqual(led(book_of(1, [told]), told, [-1]), [0])

    def test_whole_numbers_in_a_list_are_told(self):
        for told in (led(market(), [1, 0, 0], [0, 0]), led(book_of(1, []), [1], []), led(market(), [3, 1, 0], [1, 0])):
            self.assertIs(type(told), list)
            for number in told:
                self.assertIs(type(number), int)


class LedRefusals(unittest.TestCase):
    def test_bad_basket(self):
        for basket in ([], [1, 2], [1, 2, 3, 4], [0] * 8, [0] * 240):
            with self.subTest(basket):
                self.assertRaises(BadBasket, led, market(), basket, [1, 1])
                self.assertRaises(BadBasket, led, market(), basket, [0, 0])

    def test_bad_basket_by_a_book_without_swaps(self):
        for many in (1, 8):
            self.assertRaises(BadBasket, led, book_of(many, []), [0] * (many - 1), [])
            self.assertRaises(BadBasket, led, book_of(many, []), [0] * (many + 1), [])

    def test_bad_road(self):
        for road in ([], [1], [1, 2, 3], [0] * 12, [0] * 240):
            with self.subTest(road):
                self.assertRaises(BadRoad, led, market(), [1, 2, 3], road)

    def test_bad_road_by_a_book_without_swaps_and_with_12(self):
        self.assertRaises(BadRoad, led, book_of(1, []), [1], [0])
        self.assertRaises(BadRoad, led, book_of(1, [[1]] * 12), [1], [0] * 11)
        self.assertRaises(BadRoad, led, book_of(1, [[1]] * 12), [1], [0] * 13)

    def test_bad_basket_ahead_of_bad_road(self):
        for basket in ([], [1, 2], [1, 2, 3, 4]):
            for road in ([], [1], [1, 2, 3]):
                self.assertRaises(BadBasket, led, market(), basket, road)

    def test_basket_and_road_with_one_another_s_length(self):
        self.assertRaises(BadBasket, led, market(), [1, 2], [1, 2, 3])


class BehindARefusal(unittest.TestCase):
    def test_what_was_handed_in_stays_as_it_was(self):
        wrong = [[1, 2], [1], [3, 4]]
        self.assertRaises(BadSwap, book_of, 2, wrong)
        self.assertRaises(BadWares, book_of, 9, wrong)
        self.assertEqual(wrong, [[1, 2], [1], [3, 4]])
        many = [[1, 2] for place in range(13)]
        self.assertRaises(TooMany, book_of, 2, many)
        self.assertEqual(many, [[1, 2]] * 13)
        basket, road = [1, 2], [3]
        self.assertRaises(BadBasket, led, market(), basket, road)
        self.assertRaises(BadRoad, led, market(), [0, 0, 0], road)
        self.assertEqual((basket, road), ([1, 2], [3]))

    def test_books_are_made_and_roads_led_as_if_nothing_had_been_refused(self):
        book = market()
        before = led(book, [1, 2, 3], [4, 5])
        self.assertRaises(BadWares, book_of, 0, [[7, 7, 7]])
        self.assertRaises(TooMany, book_of, 3, [[7, 7, 7]] * 13)
        self.assertRaises(BadSwap, book_of, 3, [[7, 7, 7], [7]])
        self.assertRaises(BadBasket, led, book, [1, 2], [4, 5])
        self.assertRaises(BadRoad, led, book, [1, 2, 3], [4, 5, 6])
        self.assertRaises(BadRoad, led, book, [1, 2, 3], [4])
        self.assertEqual(fields(book), (3, MARKET))
        self.assertEqual(led(book, [1, 2, 3], [4, 5]), before)
        self.assertEqual(fields(market()), (3, MARKET))
        self.assertEqual(fields(book_of(3, [])), (3, []))

    def test_a_swap_mended_behind_a_refusal_is_taken(self):
        swaps = [[1, 2], [1]]
        self.assertRaises(BadSwap, book_of, 2, swaps)
        swaps[1].append(5)
        self.assertEqual(book_of(2, swaps).swaps, [[1, 2], [1, 5]])

    def test_a_later_refusal_does_not_change_the_place_of_an_earlier_one(self):
        refusals = []
        for swaps in ([[1], [1, 2]], [[1, 2], [1]]):
            with self.assertRaises(BadSwap) as caught:
                book_of(2, swaps)
            refusals.append(caught.exception)
        self.assertEqual([refusal.place for refusal in refusals], [0, 1])


class OwnLists(unittest.TestCase):
    def test_swaps_handed_in_stay_as_they_were(self):
        swaps = [[1, -2], [0, 0], [3, 4]]
        within = list(swaps)
        book = book_of(2, swaps)
        led(book, [5, 6], [7, 8, 9])
        self.assertEqual(swaps, [[1, -2], [0, 0], [3, 4]])
        for swap, before in zip(swaps, within):
            self.assertIs(swap, before)

    def test_a_book_stays_when_the_swaps_handed_in_are_changed(self):
        swaps = [[1, -2], [3, 4]]
        book = book_of(2, swaps)
        swaps[0][0] = 99
        swaps[1].append(5)
        self.assertEqual(book.swaps, [[1, -2], [3, 4]])
        swaps.append([7, 7])
        self.assertEqual(fields(book), (2, [[1, -2], [3, 4]]))
        swaps.clear()
        self.assertEqual(fields(book), (2, [[1, -2], [3, 4]]))
        self.assertEqual(led(book, [0, 0], [1, 1]), [4, 2])

    def test_a_book_without_swaps_stays_too(self):
        swaps = []
        book = book_of(2, swaps)
        swaps.append([1, 1])
        self.assertEqual(book.swaps, [])
        self.assertEqual(led(book, [1, 2], []), [1, 2])

    def test_a_book_made_of_changed_swaps_is_made_of_what_they_are_then(self):
        swaps = [[1]]
        one = book_of(1, swaps)
        swaps[0][0] = 2
        other = book_of(1, swaps)
        self.assertEqual((one.swaps, other.swaps), ([[1]], [[2]]))

    def test_a_book_made_of_a_books_swaps(self):
        one = market()
        other = book_of(3, one.swaps)
        self.assertEqual(fields(other), fields(one))
        self.assertIsNot(other.swaps, one.swaps)
        self.assertIsNot(other.swaps[0], one.swaps[0])

    def test_led_changes_neither_basket_nor_road_nor_book(self):
        book, basket, road = market(), [4, 5, 6], [-2, 3]
        led(book, basket, road)
        self.assertEqual((basket, road), ([4, 5, 6], [-2, 3]))
        self.assertEqual(fields(book), (3, MARKET))

    def test_a_changed_told_list_changes_nothing(self):
        asked = (
            (market(), [4, 5, 6], [-2, 3]), (market(), [4, 5, 6], [0, 0]),
            (market(), [0, 0, 0], [1, 0]), (market(), [0, 0, 0], [0, 1]), (market(), [0, 0, 0], [0, 0]),
            (book_of(3, []), [4, 5, 6], []), (book_of(3, []), [0, 0, 0], []),
        )
        for book, basket, road in asked:
            with self.subTest(basket=basket, road=road):
                before = (book.many, [list(swap) for swap in book.swaps], list(basket), list(road))
                told = led(book, basket, road)
                kept = list(told)
                told[0] = 1000
                told.append(7)
                self.assertEqual((book.many, book.swaps, basket, road), before)
                self.assertEqual(led(book, basket, road), kept)

    def test_a_basket_or_road_changed_behind_the_call_changes_no_told_list(self):
        book, basket, road = market(), [4, 5, 6], [0, 0]
        told = led(book, basket, road)
        basket[0] = 99
        road[0] = 1
        self.assertEqual(told, [4, 5, 6])
        self.assertEqual(led(book, basket, road), [96, 4, 7])


if __name__ == "__main__":
    unittest.main()
