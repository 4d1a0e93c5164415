import inspect
import unittest

from swapbook.baskets import less, plus, times, weighed
from swapbook.errors import NotAlike

# Sixty figures: far beyond what a machine number or a float holds exactly.
GREAT = 10 ** 59 + 7
GREATEST = 10 ** 60 - 1

PAIRED = (plus, less, weighed)


class Interface(unittest.TestCase):
    def test_arguments_bear_their_names(self):
        for function in PAIRED:
            with self.subTest(function.__name__):
                self.assertEqual(list(inspect.signature(function).parameters), ["one", "other"])
        self.assertEqual(list(inspect.signature(times).parameters), ["some", "many"])


class Plus(unittest.TestCase):
    def test_sums_at_like_places(self):
        self.assertEqual(plus([3, 0, -5, 2], [4, -1, -6, -2]), [7, -1, -11, 0])

    def test_empty_lists(self):
        self.assertEqual(plus([], []), [])

    def test_one_number(self):
        self.assertEqual(plus([-2], [5]), [3])

    def test_the_same_list_twice(self):
        some = [1, -2, 0]
        self.assertEqual(plus(some, some), [2, -4, 0])
        self.assertEqual(some, [1, -2, 0])

    def test_great_numbers(self):
        self.assertEqual(plus([GREATEST, -GREATEST, GREAT], [1, -1, -GREAT]), [10 ** 60, -10 ** 60, 0])


class Less(unittest.TestCase):
    def test_first_less_the_other(self):
        self.assertEqual(less([3, 0, -5, 2], [4, -1, -6, 2]), [-1, 1, 1, 0])

    def test_empty_lists(self):
        self.assertEqual(less([], []), [])

    def test_one_number(self):
        self.assertEqual(less([-2], [5]), [-7])

    def test_the_same_list_twice(self):
        some = [1, -2, 0]
        self.assertEqual(less(some, some), [0, 0, 0])
        self.assertEqual(some, [1, -2, 0])

    def test_great_numbers(self):
        self.assertEqual(less([GREATEST, -GREATEST, GREAT], [-1, 1, GREAT - 1]), [10 ** 60, -10 ** 60, 1])


class Times(unittest.TestCase):
    def test_each_number_so_many_times(self):
        self.assertEqual(times([3, 0, -5], 4), [12, 0, -20])

    def test_below_nought(self):
        self.assertEqual(times([3, 0, -5], -2), [-6, 0, 10])
        self.assertEqual(times([3, 0, -5], -1), [-3, 0, 5])

    def test_by_nought_and_by_one(self):
        self.assertEqual(times([3, 0, -5], 0), [0, 0, 0])
        self.assertEqual(times([3, 0, -5], 1), [3, 0, -5])

    def test_empty_list(self):
        for many in (-3, 0, 1, 5):
            self.assertEqual(times([], many), [])

    def test_great_numbers(self):
        self.assertEqual(times([GREATEST, -1, 0], GREATEST), [10 ** 120 - 2 * 10 ** 60 + 1, -GREATEST, 0])


class Weighed(unittest.TestCase):
    def test_sum_of_products(self):
        self.assertEqual(weighed([3, 0, -5, 2], [4, 9, -6, -7]), 28)

    def test_below_nought_and_nought(self):
        self.assertEqual(weighed([1, 2], [-3, 1]), -1)
        self.assertEqual(weighed([1, 2], [-2, 1]), 0)

    def test_empty_lists(self):
        self.assertEqual(weighed([], []), 0)

    def test_the_same_list_twice(self):
        some = [1, -2, 3]
        self.assertEqual(weighed(some, some), 14)

    def test_great_numbers(self):
        # The great products cancel, so whatever is not exact shows.
        self.assertEqual(weighed([GREATEST, -GREATEST, 1], [GREATEST, GREATEST, 5]), 5)
        self.assertEqual(weighed([GREAT], [-GREAT]), -(10 ** 118 + 14 * 10 ** 59 + 49))


class LongLists(unittest.TestCase):
    def test_lists_of_240_entries(self):
        one = list(range(-120, 120))
        other = list(range(240))
        self.assertEqual(plus(one, other), list(range(-120, 360, 2)))
        self.assertEqual(less(other, one), [120] * 240)
        self.assertEqual(times(one, 3), list(range(-360, 360, 3)))
        self.assertEqual(weighed([1] * 240, other), 28680)


class ToldNumbersHandedInAgain(unittest.TestCase):
    def test_numbers_with_more_than_sixty_figures(self):
        told = times([GREATEST, -GREATEST], GREATEST)
        self.assertEqual(less(plus(told, told), told), told)
        self.assertEqual(times(told, told[0]), [GREATEST ** 4, -GREATEST ** 4])
        self.assertEqual(weighed(told, [1, 1]), 0)
        self.assertEqual(weighed(told, told), 2 * GREATEST ** 4)


class WholeNumbers(unittest.TestCase):
    def test_every_told_number_is_whole_and_none_is_true_or_false(self):
        told = [weighed([], []), weighed([1], [1]), weighed([0], [1]), weighed([GREAT], [GREAT])]
        told += plus([1, 0], [0, 0]) + less([1, 1], [0, 1]) + times([1, 0, GREAT], 1) + times([1], 0)
        for number in told:
            self.assertIs(type(number), int)

    def test_lists_are_told(self):
        for told in (plus([], []), less([1], [1]), times([], 2), times([4], 1)):
            self.assertIs(type(told), list)


class UnlikeLengths(unittest.TestCase):
    def test_refused_either_way_about(self):
        pairs = (
            ([], [0]), ([1], [1, 2]), ([1, 2, 3], [1, 2]), ([0] * 8, [0] * 9),
            ([1] * 240, [1] * 239), ([GREAT], [GREAT, 0]),
        )
        for function in PAIRED:
            for short, long in pairs:
                with self.subTest(function=function.__name__, lengths=(len(short), len(long))):
                    self.assertRaises(NotAlike, function, short, long)
                    self.assertRaises(NotAlike, function, long, short)

    def test_a_refusal_changes_nothing(self):
        for function in PAIRED:
            with self.subTest(function.__name__):
                one, other, third = [1, -2], [3], [5, 6]
                before = function(one, third)
                self.assertRaises(NotAlike, function, one, other)
                self.assertRaises(NotAlike, function, other, one)
                self.assertEqual((one, other, third), ([1, -2], [3], [5, 6]))
                self.assertEqual(function(one, third), before)
                self.assertEqual(function(other, other), function([3], [3]))


class OwnLists(unittest.TestCase):
    def test_lists_handed_in_stay_as_they_were(self):
        for function in PAIRED:
            with self.subTest(function.__name__):
                one, other = [4, 0, -6], [-1, 2, 3]
                function(one, other)
                self.assertEqual((one, other), ([4, 0, -6], [-1, 2, 3]))
        some = [4, 0, -6]
        times(some, -7)
        self.assertEqual(some, [4, 0, -6])

    def test_a_told_list_is_never_one_that_was_handed_in(self):
        some, noughts, empty = [4, 0, -6], [0, 0, 0], []
        for told in (plus(some, noughts), plus(noughts, some), less(some, noughts), times(some, 1)):
            self.assertEqual(told, [4, 0, -6])
            told[0] = 99
            told.append(1)
        for told in (plus(empty, empty), less(empty, empty), times(empty, 1), times(empty, 0)):
            self.assertEqual(told, [])
            told.append(1)
        for told in (less(noughts, noughts), times(noughts, 3), less(some, some), times(some, 0)):
            self.assertEqual(told, [0, 0, 0])
            told[1] = 5
        self.assertEqual((some, noughts, empty), ([4, 0, -6], [0, 0, 0], []))

    def test_a_changed_told_list_changes_no_later_answer(self):
        asked = (
            lambda: plus([1, 2], [3, 4]), lambda: plus([1, 2], [0, 0]), lambda: plus([], []),
            lambda: less([1, 2], [3, 4]), lambda: less([1, 2], [0, 0]), lambda: less([], []),
            lambda: times([1, 2], 0), lambda: times([1, 2], 1), lambda: times([1, 2], -3), lambda: times([], 1),
        )
        for ask in asked:
            told = ask()
            before = list(told)
            told.append(77)
            told[0] = 55
            self.assertEqual(ask(), before)

    def test_a_list_changed_behind_the_call_changes_no_told_list(self):
        one, other = [1, 2], [3, 4]
        told = [plus(one, other), less(one, other), times(one, 1), plus(one, [0, 0]), times(one, 0)]
        one[0] = 50
        other.append(9)
        self.assertEqual(told, [[4, 6], [-2, -2], [1, 2], [1, 2], [0, 0]])

    def test_a_list_changed_behind_the_call_is_read_anew(self):
        one, other = [1, 2], [3, 4]
        for function, told in ((plus, [53, 6]), (less, [47, -2]), (weighed, 158)):
            one[0] = 1
            function(one, other)
            one[0] = 50
            self.assertEqual(function(one, other), told)
        self.assertEqual(times(one, 2), [100, 4])
        one[1] = -2
        self.assertEqual(times(one, 2), [100, -4])

    def test_two_told_lists_are_apart(self):
        one, other = plus([1], [1]), plus([1], [1])
        one[0] = 9
        self.assertEqual(other, [2])
        one, other = times([1], 1), times([1], 1)
        one[0] = 9
        self.assertEqual(other, [1])


if __name__ == "__main__":
    unittest.main()
