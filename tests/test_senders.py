import inspect
import itertools
import random
import unittest

from swapbook.books import Book, book_of
from swapbook.errors import BadBasket, BadBaskets, NotKept, OtherBook, SwapError
from swapbook.homes import home, many_homes, road
from swapbook.scales import Line, Rest, Scale, fair, parting
from swapbook.senders import Sender
from swapbook.stairs import stairs, stairs_of

GREAT = 10 ** 59 + 7
GREATEST = 10 ** 60 - 1


def fields(book):
    return book.many, [list(swap) for swap in book.swaps]


def values(scale):
    if scale is None:
        return None
    return type(scale), list(scale.weights), scale.rest if isinstance(scale, Rest) else None


def whole(sender):
    return fields(sender.first), fields(sender.second), [list(basket) for basket in sender.baskets]


def units(many, number=1):
    return [[number if place == k else 0 for place in range(many)] for k in range(many)]


def summed(rows, counts, many):
    return [sum(row[ware] * count for row, count in zip(rows, counts)) for ware in range(many)]


def head(step):
    return next(place for place, number in enumerate(step) if number != 0)


def are_stairs(rows):
    if not all(any(row) for row in rows):
        return False
    heads = [head(row) for row in rows]
    if heads != sorted(set(heads)) or any(row[place] <= 0 for row, place in zip(rows, heads)):
        return False
    return all(0 <= rows[before][heads[k]] < rows[k][heads[k]] for k in range(len(rows)) for before in range(k))


def random_row(chance, many, most):
    return [chance.randrange(-most, most + 1) for place in range(many)]


def random_sender(chance, first, second, most, swaps):
    """A sender between books of so many wares, whose first book has swaps that are sent to what is worth nothing."""
    other = book_of(second, [random_row(chance, second, most) for swap in range(swaps)])
    baskets = [random_row(chance, second, most) for ware in range(first)]
    kept = Sender(book_of(first, []), other, baskets).lost().swaps
    own = [summed(kept, random_row(chance, len(kept), 3), first) for swap in range(chance.randrange(5))]
    return Sender(book_of(first, own), other, baskets)


# Eggs and hens to pence: a hen is given for twelve eggs, and for 36 pence.
def market():
    return Sender(book_of(2, [[-12, 1]]), book_of(1, []), [[3], [36]])


# Days to weekdays: by the second book seven days are worth nothing.
def week():
    return Sender(book_of(2, [[7, -1]]), book_of(1, [[7]]), [[1], [7]])


# Two wares to three, where six of the last one are worth nothing.
def three():
    return Sender(book_of(2, [[3, 0]]), book_of(3, [[2, 2, 0], [0, 0, 6]]), [[0, 0, 2], [1, 1, 0]])


SENDERS = (market, week, three)


class Interface(unittest.TestCase):
    def test_arguments_bear_their_names(self):
        for asked, names in (
            (Sender, ["first", "second", "baskets"]), (Sender.sent, ["self", "basket"]),
            (Sender.back, ["self", "basket"]), (Sender.bar, ["self", "basket"]), (Sender.lost, ["self"]),
            (Sender.behind, ["self", "other"]),
        ):
            self.assertEqual(list(inspect.signature(asked).parameters), names)

    def test_arguments_by_their_names(self):
        sender = Sender(first=book_of(1, []), second=book_of(1, []), baskets=[[2]])
        self.assertEqual(sender.sent(basket=[3]), [6])
        self.assertEqual(sender.back(basket=[6]), [3])
        self.assertIsNotNone(sender.bar(basket=[5]))
        self.assertEqual(sender.behind(other=sender).baskets, [[4]])

    def test_kinds(self):
        for sender in (market(), week(), three()):
            self.assertIs(type(sender), Sender)
            self.assertIs(type(sender.first), Book)
            self.assertIs(type(sender.second), Book)
            self.assertIs(type(sender.lost()), Book)
            self.assertIs(type(sender.behind(Sender(sender.first, sender.first, units(2)))), Sender)
            nothing = [0] * sender.second.many
            for told in (sender.baskets[0], sender.sent([1, 2]), sender.back(nothing)):
                self.assertIs(type(told), list)
                for number in told:
                    self.assertIs(type(number), int)
            self.assertIs(type(sender.baskets), list)
            self.assertIsNone(sender.bar(nothing))

    def test_fields(self):
        self.assertEqual(whole(market()), ((2, [[-12, 1]]), (1, []), [[3], [36]]))
        self.assertEqual(whole(three()), ((2, [[3, 0]]), (3, [[2, 2, 0], [0, 0, 6]]), [[0, 0, 2], [1, 1, 0]]))


class Sent(unittest.TestCase):
    def test_by_hand(self):
        for sender, basket, told in (
            (market(), [0, 0], [0]), (market(), [1, 0], [3]), (market(), [0, 1], [36]), (market(), [5, -2], [-57]),
            (market(), [-12, 1], [0]), (week(), [3, 2], [17]), (week(), [-1, 0], [-1]),
            (three(), [1, 0], [0, 0, 2]), (three(), [-4, 3], [3, 3, -8]), (three(), [0, -1], [-1, -1, 0]),
            (market(), [GREATEST, -GREAT], [3 * GREATEST - 36 * GREAT]),
        ):
            self.assertEqual(sender.sent(basket), told)

    def test_the_sum_of_the_baskets(self):
        chance = random.Random(1)
        for first, second in itertools.product((1, 2, 5, 8), repeat=2):
            for most in (1, 9, GREATEST):
                baskets = [random_row(chance, second, most) for ware in range(first)]
                sender = Sender(book_of(first, []), book_of(second, []), baskets)
                for again in range(5):
                    basket = random_row(chance, first, most)
                    self.assertEqual(sender.sent(basket), summed(baskets, basket, second))
                for ware, unit in enumerate(units(first)):
                    self.assertEqual(sender.sent(unit), baskets[ware])

    def test_baskets_worth_the_same_are_sent_to_baskets_worth_the_same(self):
        chance = random.Random(2)
        for again in range(60):
            sender = random_sender(chance, chance.randrange(1, 5), chance.randrange(1, 5), 4, chance.randrange(4))
            for swap in sender.first.swaps:
                self.assertIsNotNone(road(sender.second, [0] * sender.second.many, sender.sent(swap)))


class BadBasketLists(unittest.TestCase):
    def test_not_one_basket_for_each_ware(self):
        for many in (1, 2, 8):
            for wrong in (0, many - 1, many + 1, 240):
                for swaps in ([], [[1] * many], [[0] * many]):
                    self.assertRaises(BadBaskets, Sender, book_of(many, swaps), book_of(2, []), [[1, 1]] * wrong)

    def test_a_basket_with_a_number_less_or_more(self):
        for many in (1, 2, 8):
            for wrong in ([0] * (many - 1), [0] * (many + 1), [1] * 240):
                for place in range(3):
                    baskets = [[0] * many for ware in range(3)]
                    baskets[place] = wrong
                    self.assertRaises(BadBaskets, Sender, book_of(3, []), book_of(many, []), baskets)
                    self.assertRaises(BadBaskets, Sender, book_of(3, units(3)), book_of(many, units(many)), baskets)

    def test_of_the_first_books_length_and_not_the_seconds(self):
        self.assertRaises(BadBaskets, Sender, book_of(3, []), book_of(2, []), [[1, 2, 3], [4, 5, 6]])
        self.assertRaises(BadBaskets, Sender, book_of(3, []), book_of(2, []), [[1, 2, 3]] * 3)
        self.assertEqual(Sender(book_of(3, []), book_of(2, []), [[1, 2]] * 3).sent([1, 1, 1]), [3, 6])

    def test_ahead_of_not_kept(self):
        first, second = book_of(2, [[1, 0], [0, 1]]), book_of(2, [])
        for baskets in ([], [[1, 1]], [[1, 1]] * 3, [[1], [1, 1]], [[1, 1], [1]], [[1, 1], [1, 1, 1]], [[1], [1]]):
            self.assertRaises(BadBaskets, Sender, first, second, baskets)
        self.assertRaises(NotKept, Sender, first, second, [[1, 1], [1, 1]])


class NotKeptSwaps(unittest.TestCase):
    def assert_not_kept(self, first, second, baskets, place):
        try:
            Sender(first, second, baskets)
        except NotKept as refusal:
            self.assertEqual(refusal.place, place)
            self.assertIs(type(refusal.place), int)
            self.assertIsInstance(refusal.scale, Scale)
            self.assertIn(type(refusal.scale), (Line, Rest))
            self.assertEqual(len(refusal.scale.weights), second.many)
            self.assertIsNone(fair(second, refusal.scale))
            image = summed(baskets, first.swaps[place], second.many)
            self.assertIs(refusal.scale.levels(image), False)
            for before in first.swaps[:place]:
                nothing = [0] * second.many
                self.assertIsNone(parting(second, nothing, summed(baskets, before, second.many)))
            return
        self.fail("it was made")

    def test_by_hand(self):
        for first, second, baskets, place in (
            ((1, [[1]]), (1, []), [[1]], 0), ((1, [[0], [1]]), (1, []), [[1]], 1),
            ((1, [[2], [3]]), (1, [[2]]), [[1]], 1), ((1, [[4], [6], [9], [1]]), (1, [[2]]), [[3]], 2),
            ((2, [[-12, 1]]), (1, []), [[3], [35]], 0), ((2, [[-12, 1], [1, 1]]), (1, []), [[3], [36]], 1),
            ((2, [[1, 1]]), (3, [[1, 0, 0], [0, 1, 0]]), [[5, 6, 1], [7, 8, 0]], 0),
            ((3, [[1, -1, 0], [0, 1, -1]]), (2, [[0, 4]]), [[1, 0], [1, 4], [1, 2]], 1),
            ((1, [[GREAT]]), (1, [[GREATEST]]), [[1]], 0), ((1, [[GREATEST], [1]]), (1, [[GREATEST]]), [[GREAT]], 1),
            ((2, [[0, 0], [GREATEST, -GREAT]]), (2, []), [[GREAT, 1], [GREATEST, 0]], 1),
        ):
            with self.subTest(first=first, second=second, baskets=baskets):
                self.assert_not_kept(book_of(*first), book_of(*second), baskets, place)

    def test_the_first_of_several(self):
        for place in range(12):
            for behind in ([2, 0], [1, 0], [0, 1], [0, 0]):
                first = book_of(2, [[2, 0]] * place + [[1, 0]] + [behind] * (11 - place))
                self.assert_not_kept(first, book_of(2, [[2, 0]]), units(2), place)
                self.assert_not_kept(first, book_of(1, [[4]]), [[2], [1]], place)
                self.assert_not_kept(book_of(2, first.swaps), book_of(2, [[2, 0]] * 12), [[1, 0], [0, 0]], place)

    def test_8_wares(self):
        # The last ware has no part in the first seven swaps, whose images are the second book's swaps.
        chance = random.Random(3)
        for most in (3, GREATEST):
            swaps = [random_row(chance, 7, most) + [0] for swap in range(7)]
            second = book_of(8, [[2 * number for number in swap] for swap in swaps])
            self.assertEqual(Sender(book_of(8, swaps), second, units(8, 2)).baskets, units(8, 2))
            self.assert_not_kept(book_of(8, swaps + [swaps[0][:7] + [1]]), second, units(8, 2), 7)

    def test_the_fields_are_there_by_every_catch(self):
        for catcher in (NotKept, SwapError, ValueError):
            try:
                Sender(book_of(1, [[3]]), book_of(1, [[2]]), [[1]])
            except catcher as refusal:
                self.assertEqual(refusal.place, 0)
                self.assertIs(type(refusal.scale), Rest)
            else:
                self.fail("it was made")

    def test_made_just_where_each_swap_is_sent_to_what_is_worth_nothing(self):
        chance = random.Random(4)
        made = 0
        for again in range(300):
            first = book_of(2, [random_row(chance, 2, 4) for swap in range(chance.randrange(3))])
            second = book_of(2, [random_row(chance, 2, 3) for swap in range(chance.randrange(4))])
            baskets = [random_row(chance, 2, 2) for ware in range(2)]
            places = [place for place, swap in enumerate(first.swaps)
                      if road(second, [0, 0], summed(baskets, swap, 2)) is None]
            if places:
                self.assert_not_kept(first, second, baskets, places[0])
            else:
                self.assertEqual(whole(Sender(first, second, baskets)), (fields(first), fields(second), baskets))
                made += 1
        self.assertTrue(30 < made < 270)


class BackAndBar(unittest.TestCase):
    def assert_back(self, sender, basket, found):
        nothing = [0] * sender.second.many
        told, scale = sender.back(basket), sender.bar(basket)
        if found:
            self.assertIs(type(told), list)
            self.assertEqual(len(told), sender.first.many)
            self.assertEqual(home(sender.second, sender.sent(told)), home(sender.second, basket))
            self.assertIsNone(scale)
            return
        self.assertIsNone(told)
        self.assertIn(type(scale), (Line, Rest))
        self.assertEqual(len(scale.weights), sender.second.many)
        self.assertIsNone(fair(sender.second, scale))
        for image in sender.baskets:
            self.assertIs(scale.levels(image), True)
        self.assertIs(scale.levels(basket), False)
        self.assertIs(scale.levels(nothing), True)

    def test_by_hand(self):
        for number in range(-80, 81):
            self.assert_back(market(), [number], number % 3 == 0)
            self.assert_back(week(), [number], True)
            self.assert_back(Sender(book_of(2, []), book_of(1, []), [[6], [10]]), [number], number % 2 == 0)
            self.assert_back(Sender(book_of(2, []), book_of(1, [[15]]), [[6], [0]]), [number], number % 3 == 0)
            self.assert_back(Sender(book_of(1, [[5]]), book_of(1, [[10]]), [[4]]), [number], number % 2 == 0)

    def test_more_wares_by_hand(self):
        # Sent are multiples of (0, 0, 2) and (1, 1, 0); worth nothing are (2, 2, 0) and (0, 0, 6).
        for basket in itertools.product(range(-4, 5), repeat=3):
            self.assert_back(three(), list(basket), basket[0] == basket[1] and basket[2] % 2 == 0)
        sender = Sender(book_of(2, []), book_of(3, [[1, 0, 0]]), [[0, 2, 0], [0, 0, 3]])
        for basket in itertools.product(range(-6, 7), repeat=3):
            self.assert_back(sender, list(basket), basket[1] % 2 == 0 and basket[2] % 3 == 0)

    def test_baskets_that_are_all_nothing(self):
        for first, second in ((1, 1), (1, 8), (8, 1), (3, 2)):
            for swaps, worth in (([], [0] * second), (units(second, 6), [6] * second), (units(second), [5] * second)):
                sender = Sender(book_of(first, units(first)), book_of(second, swaps), [[0] * second] * first)
                self.assert_back(sender, [0] * second, True)
                self.assert_back(sender, worth, True)
                other = list(worth)
                other[-1] += 1
                self.assert_back(sender, other, swaps == units(second))

    def test_a_basket_that_only_the_swaps_make(self):
        sender = Sender(book_of(1, []), book_of(2, [[0, 4]]), [[3, 0]])
        self.assert_back(sender, [0, 4], True)
        self.assert_back(sender, [3, -8], True)
        self.assert_back(sender, [3, 2], False)
        self.assert_back(sender, [1, 4], False)

    def test_what_is_sent_is_found_again(self):
        chance = random.Random(5)
        for first, second in itertools.product((1, 2, 5, 8), repeat=2):
            for most, swaps in ((4, 3), (GREATEST, 12), (GREATEST, 2), (9, 0)):
                sender = random_sender(chance, first, second, most, swaps)
                for again in range(2):
                    basket = sender.sent(random_row(chance, first, most))
                    self.assert_back(sender, basket, True)
                    counts = random_row(chance, swaps, most)
                    moved = summed(sender.second.swaps, counts, second)
                    self.assert_back(sender, [a + b for a, b in zip(basket, moved)], True)

    def test_what_is_not_sent(self):
        # All that is sent, and all swaps, weigh an even number where each ware weighs 1.
        chance = random.Random(6)
        for first, second in itertools.product((1, 2, 5, 8), repeat=2):
            for most, swaps in ((4, 3), (GREATEST, 12), (GREATEST, 2), (9, 0)):
                even = []
                for row in [random_row(chance, second, most) for row in range(first + swaps)]:
                    row[0] += sum(row) % 2
                    even.append(row)
                sender = Sender(book_of(first, []), book_of(second, even[first:]), even[:first])
                basket = sender.sent(random_row(chance, first, most))
                self.assert_back(sender, basket, True)
                basket[-1] += 1
                self.assert_back(sender, basket, False)

    def test_one_of_both(self):
        chance = random.Random(7)
        seen = {True: 0, False: 0}
        for again in range(200):
            sender = random_sender(chance, chance.randrange(1, 4), chance.randrange(1, 4), 4, chance.randrange(4))
            basket = random_row(chance, sender.second.many, 6)
            found = sender.back(basket) is not None
            self.assert_back(sender, basket, found)
            seen[found] += 1
        self.assertTrue(min(seen.values()) > 20)

    def test_told_numbers_handed_in_again(self):
        chance = random.Random(8)
        sender = random_sender(chance, 3, 3, GREATEST, 3)
        basket = sender.sent(random_row(chance, 3, GREATEST))
        for again in range(3):
            basket = sender.sent(sender.back(basket))
            self.assert_back(sender, basket, True)
        far = sender.sent(sender.sent(basket))
        self.assert_back(sender, far, True)
        narrow = Sender(book_of(1, []), book_of(2, [[GREATEST, 1]]), [[1, GREAT]])
        scale = narrow.bar([1, 0])
        self.assert_back(narrow, [1, 0], False)
        self.assert_back(narrow, scale.weights, narrow.back(scale.weights) is not None)


class Lost(unittest.TestCase):
    def assert_lost(self, sender, swaps):
        told = sender.lost()
        self.assertEqual(fields(told), (sender.first.many, swaps))
        self.assertTrue(are_stairs(told.swaps))

    def test_by_hand(self):
        self.assert_lost(market(), [[12, -1]])
        self.assert_lost(week(), [[7, 0], [0, 1]])
        self.assert_lost(three(), [[3, 0], [0, 2]])
        for first, second, baskets, swaps in (
            ((1, []), (1, []), [[5]], []), ((1, []), (1, [[6]]), [[4]], [[3]]), ((1, []), (1, [[6]]), [[1]], [[6]]),
            ((1, [[6]]), (1, [[6]]), [[-1]], [[6]]), ((1, []), (1, [[6]]), [[6]], [[1]]),
            ((2, []), (1, [[6]]), [[2], [3]], [[3, 0], [0, 2]]), ((2, []), (1, []), [[2], [3]], [[3, -2]]),
            ((2, []), (1, [[6]]), [[1], [1]], [[1, 5], [0, 6]]), ((2, []), (2, []), units(2), []),
            ((2, []), (2, [[4, 2]]), units(2), [[4, 2]]), ((2, []), (2, [[0, -5]]), [[0, 1], [1, 0]], [[5, 0]]),
            ((3, []), (1, []), [[1], [12], [15]], [[3, 1, -1], [0, 5, -4]]),
            ((1, []), (3, [[2, 0, 0], [0, 3, 0], [0, 0, 5]]), [[1, 1, 1]], [[30]]),
            ((1, []), (1, [[GREATEST]]), [[1]], [[GREATEST]]), ((1, [[GREAT]]), (1, [[GREAT]]), [[3]], [[GREAT]]),
            ((2, []), (1, []), [[GREATEST], [1]], [[1, -GREATEST]]),
        ):
            with self.subTest(second=second, baskets=baskets):
                self.assert_lost(Sender(book_of(*first), book_of(*second), baskets), swaps)

    def test_the_same_just_where_what_they_are_sent_to_is_so(self):
        chance = random.Random(9)
        for again in range(120):
            many = chance.randrange(1, 4)
            sender = random_sender(chance, many, chance.randrange(1, 4), 3, chance.randrange(4))
            told = sender.lost()
            self.assertEqual(told.many, many)
            self.assertTrue(are_stairs(told.swaps))
            for basket in itertools.product(range(-4, 5), repeat=many):
                start = random_row(chance, many, 9)
                end = [a + b for a, b in zip(start, basket)]
                same = home(sender.second, sender.sent(start)) == home(sender.second, sender.sent(end))
                self.assertEqual(home(told, start) == home(told, end), same)

    def test_baskets_that_are_all_nothing(self):
        for first, second in ((1, 1), (1, 8), (8, 1), (3, 2)):
            for swaps in ([], units(second, 6), [[0] * second]):
                sender = Sender(book_of(first, []), book_of(second, swaps), [[0] * second] * first)
                self.assert_lost(sender, units(first))

    def test_from_a_book_to_itself(self):
        chance = random.Random(10)
        for many, most, swaps in ((1, 9, 2), (3, 9, 2), (8, 9, 12), (8, GREATEST, 12), (8, GREATEST, 5), (2, 9, 0)):
            book = book_of(many, [random_row(chance, many, most) for swap in range(swaps)])
            self.assert_lost(Sender(book, book, units(many)), stairs(book).steps)
            self.assert_lost(Sender(book, book, units(many, -1)), stairs(book).steps)

    def test_as_many_homes_as_baskets_are_sent_to(self):
        # Where the second book has an end of homes: those that all sent baskets leave, times those by the lost book.
        chance = random.Random(11)
        for first, second, most in (
            (1, 2, 5), (2, 2, 9), (3, 2, 9), (2, 5, 9), (8, 8, 5), (8, 8, GREATEST), (4, 8, GREATEST),
        ):
            swaps = [random_row(chance, second, most) for swap in range(second)]
            baskets = [random_row(chance, second, most) for ware in range(first)]
            sender = Sender(book_of(first, []), book_of(second, swaps), baskets)
            told = sender.lost()
            self.assertTrue(are_stairs(told.swaps))
            wide = book_of(second, stairs_of(swaps + baskets))
            self.assertEqual(many_homes(told) * many_homes(wide), many_homes(sender.second))
            for swap in told.swaps:
                self.assertEqual(home(sender.second, sender.sent(swap)), [0] * second)

    def test_what_is_worth_nothing_by_the_first_book_is_so_by_it(self):
        chance = random.Random(12)
        for again in range(20):
            sender = random_sender(chance, 4, 3, GREATEST if again % 2 else 4, 3)
            for swap in sender.first.swaps:
                self.assertEqual(home(sender.lost(), swap), [0] * 4)

    def test_the_told_book_is_taken_again(self):
        chance = random.Random(13)
        sender = random_sender(chance, 4, 4, GREATEST, 4)
        narrow = Sender(sender.lost(), sender.second, sender.baskets)
        self.assertEqual(fields(narrow.lost()), fields(sender.lost()))
        onto = Sender(sender.first, sender.lost(), units(4))
        self.assertEqual(fields(onto.lost()), fields(sender.lost()))


class Behind(unittest.TestCase):
    def test_by_hand(self):
        dozens = Sender(book_of(1, []), book_of(2, [[-12, 1]]), [[12, 0]])
        told = market().behind(dozens)
        self.assertEqual(whole(told), ((1, []), (1, []), [[36]]))
        self.assertEqual(told.sent([2]), [72])
        days = Sender(book_of(1, [[7]]), book_of(2, [[7, -1]]), [[7, -1]])
        self.assertEqual(whole(week().behind(days)), ((1, [[7]]), (1, [[7]]), [[0]]))

    def test_sends_as_the_one_behind_the_other(self):
        chance = random.Random(14)
        for first, second, third in itertools.product((1, 2, 8), repeat=3):
            for most in (3, GREATEST):
                last = random_sender(chance, second, third, most, 3)
                # What stands ahead ends at the book where this one begins, told by other objects.
                middle = book_of(*fields(last.first))
                baskets = [random_row(chance, second, most) for ware in range(first)]
                kept = Sender(book_of(first, []), middle, baskets).lost().swaps
                ahead = Sender(book_of(first, kept), middle, baskets)
                told = last.behind(ahead)
                self.assertIs(type(told), Sender)
                self.assertEqual(fields(told.first), fields(ahead.first))
                self.assertEqual(fields(told.second), fields(last.second))
                self.assertEqual(told.baskets, [last.sent(basket) for basket in baskets])
                for again in range(3):
                    basket = random_row(chance, first, most)
                    self.assertEqual(told.sent(basket), last.sent(ahead.sent(basket)))

    def test_whose_book_is_compared(self):
        # The first book of the one and the second one of the other, and no other two.
        one = Sender(book_of(1, []), book_of(2, []), [[1, 2]])
        other = Sender(book_of(2, []), book_of(3, []), [[1, 0, 0], [0, 1, 1]])
        self.assertEqual(whole(other.behind(one)), ((1, []), (3, []), [[1, 2, 2]]))
        self.assertRaises(OtherBook, one.behind, other)
        self.assertRaises(OtherBook, one.behind, one)

    def test_unlike_books(self):
        def to(many, swaps):
            return Sender(book_of(1, []), book_of(many, swaps), [[0] * many])

        def of(many, swaps):
            return Sender(book_of(many, swaps), book_of(1, []), [[0]] * many)

        books = (
            (2, [[1, 2], [3, 4]]), (2, [[3, 4], [1, 2]]), (2, [[1, 2]]), (2, [[3, 4]]), (2, []), (1, []), (3, []),
            (2, [[1, 2], [3, 5]]), (2, [[1, 2], [3, 4], [0, 0]]), (2, [[-1, -2], [3, 4]]), (1, [[1]]), (2, [[0, 0]]),
            # The same is worth the same by this one as by the first, but its swaps are others.
            (2, [[1, 2], [4, 6]]), (2, [[1, 0], [0, 2]]), (8, []), (3, [[1, 2, 0], [3, 4, 0]]),
        )
        for one, other in itertools.product(books, repeat=2):
            with self.subTest(one=one, other=other):
                if one == other:
                    self.assertEqual(whole(of(*one).behind(to(*other))), ((1, []), (1, []), [[0]]))
                else:
                    self.assertRaises(OtherBook, of(*one).behind, to(*other))

    def test_a_told_sender_is_taken_again(self):
        book = book_of(2, [[GREAT, 0], [0, GREAT]])
        sender = Sender(book, book, [[GREATEST, 1], [5, -GREATEST]])
        told = sender
        basket = sender.sent([1, 1])
        for again in range(4):
            told = sender.behind(told) if again % 2 else told.behind(sender)
            basket = sender.sent(basket)
            self.assertEqual(told.sent([1, 1]), basket)
        self.assertEqual(whole(told.behind(told))[2], [told.sent(image) for image in told.baskets])
        self.assertEqual(fields(told.lost())[0], 2)
        self.assertIsNotNone(told.back(basket))


class WrongBaskets(unittest.TestCase):
    def test_one_number_less_or_more(self):
        for first, second in ((1, 1), (1, 8), (8, 1), (8, 8), (2, 3), (3, 2)):
            for baskets in ([[0] * second] * first, [[1] * second] * first):
                sender = Sender(book_of(first, []), book_of(second, units(second, 2)), baskets)
                for wrong in (first - 1, first + 1, 0, 240):
                    self.assertRaises(BadBasket, sender.sent, [0] * wrong)
                    self.assertRaises(BadBasket, sender.sent, [1] * wrong)
                for wrong in (second - 1, second + 1, 0, 240):
                    for ask in (sender.back, sender.bar):
                        self.assertRaises(BadBasket, ask, [0] * wrong)
                        self.assertRaises(BadBasket, ask, [1] * wrong)

    def test_of_the_other_book(self):
        sender = three()
        self.assertRaises(BadBasket, sender.sent, [1, 2, 3])
        self.assertRaises(BadBasket, sender.back, [1, 2])
        self.assertRaises(BadBasket, sender.bar, [1, 2])


class BehindARefusal(unittest.TestCase):
    def answers(self, sender):
        nothing = [0] * sender.second.many
        basket = [1] * sender.second.many
        return (whole(sender), sender.sent([3, -4]), sender.back(nothing), sender.back(basket),
                values(sender.bar(nothing)), values(sender.bar(basket)), fields(sender.lost()),
                whole(sender.behind(Sender(sender.first, sender.first, units(2)))))

    def test_everything_is_answered_as_ever(self):
        for make in SENDERS:
            sender, stranger = make(), Sender(book_of(4, []), book_of(5, []), [[1] * 5] * 4)
            before = self.answers(sender)
            for refused, ask in (
                (BadBasket, lambda: sender.sent([1])), (BadBasket, lambda: sender.sent([1, 2, 3])),
                (BadBasket, lambda: sender.back([1] * 4)), (BadBasket, lambda: sender.bar([])),
                (OtherBook, lambda: sender.behind(stranger)), (OtherBook, lambda: stranger.behind(sender)),
                (BadBaskets, lambda: Sender(sender.first, sender.second, sender.baskets[:1])),
                (NotKept, lambda: Sender(sender.first, book_of(2, []), units(2))),
            ):
                self.assertRaises(refused, ask)
                self.assertEqual(self.answers(sender), before)
                self.assertEqual(whole(stranger), ((4, []), (5, []), [[1] * 5] * 4))

    def test_what_is_mended_behind_a_refusal_is_taken(self):
        first, second, baskets = book_of(2, [[-12, 1]]), book_of(1, []), [[3]]
        self.assertRaises(BadBaskets, Sender, first, second, baskets)
        baskets.append([35])
        self.assertRaises(NotKept, Sender, first, second, baskets)
        baskets[1][0] = 36
        sender = Sender(first, second, baskets)
        basket = [1]
        self.assertRaises(BadBasket, sender.sent, basket)
        basket.append(1)
        self.assertEqual(sender.sent(basket), [39])


class OwnLists(unittest.TestCase):
    def test_baskets_changed_behind_the_call(self):
        for change in (
            lambda some: some.clear(), lambda some: some.append([1, 2, 3]), lambda some: some.reverse(),
            lambda some: some[0].clear(), lambda some: some[1].append(9), lambda some: some[1].reverse(),
        ):
            baskets = [[0, 0, 2], [1, 1, 0]]
            sender = Sender(book_of(2, [[3, 0]]), book_of(3, [[2, 2, 0], [0, 0, 6]]), baskets)
            change(baskets)
            self.assertEqual(whole(sender), whole(three()))
            self.assertEqual(sender.sent([1, 1]), [1, 1, 2])
            self.assertEqual(sender.back([1, 1, 2]), three().back([1, 1, 2]))
            self.assertIsNotNone(sender.bar([0, 0, 1]))
            self.assertEqual(fields(sender.lost()), (2, [[3, 0], [0, 2]]))

    def test_one_list_handed_in_several_times(self):
        one = [1, 2]
        sender = Sender(book_of(3, []), book_of(2, []), [one, one, one])
        one[0] = 9
        self.assertEqual(sender.baskets, [[1, 2]] * 3)
        self.assertEqual(len({id(basket) for basket in sender.baskets}), 3)

    def test_what_is_handed_in_stays_as_it_was(self):
        for make in SENDERS:
            first, second, baskets = whole(make())
            one, other, images = book_of(*first), book_of(*second), [list(image) for image in baskets]
            sender = Sender(one, other, images)
            ahead = Sender(book_of(1, []), one, [[5, 6]])
            basket, far, nothing = [3, -4], [1] * second[0], [0] * second[0]
            sender.sent(basket)
            for some in (far, nothing):
                sender.back(some)
                sender.bar(some)
            sender.lost()
            sender.behind(ahead)
            self.assertEqual((fields(one), fields(other), images), (first, second, baskets))
            self.assertEqual((basket, far, nothing), ([3, -4], [1] * second[0], [0] * second[0]))
            self.assertEqual(whole(sender), (first, second, baskets))
            self.assertEqual(whole(ahead), ((1, []), first, [[5, 6]]))

    def test_refused_baskets_stay_as_they_were(self):
        baskets = [[3], [35]]
        self.assertRaises(NotKept, Sender, book_of(2, [[-12, 1]]), book_of(1, []), baskets)
        self.assertEqual(baskets, [[3], [35]])

    def test_told_lists_are_the_askers_own(self):
        for make in SENDERS:
            sender = make()
            nothing = [0] * sender.second.many
            for ask in (
                lambda: sender.sent([0, 0]), lambda: sender.sent([1, 0]), lambda: sender.sent([0, 1]),
                lambda: sender.back(nothing), lambda: sender.back(sender.sent([1, 1])),
            ):
                told = ask()
                kept = list(told)
                told.append(7)
                told[0] = 99
                self.assertEqual(ask(), kept)
                self.assertEqual(whole(sender), whole(make()))
                self.assertEqual(nothing, [0] * sender.second.many)

    def test_what_is_told_stays_as_it_is(self):
        sender = three()
        basket = [1, 1]
        told, book = sender.sent(basket), sender.lost()
        back, scale = sender.back(told), sender.bar([0, 0, 1])
        kept = list(told), fields(book), list(back), values(scale)
        basket[0] = 50
        sender.sent([7, 7])
        sender.back([2, 2, 4])
        sender.bar([1, 0, 0])
        sender.lost()
        sender.behind(Sender(sender.first, sender.first, units(2)))
        self.assertEqual((told, fields(book), back, values(scale)), kept)

    def test_a_told_sender_has_lists_of_its_own(self):
        sender = three()
        ahead = Sender(sender.first, sender.first, units(2))
        told = sender.behind(ahead)
        held = [sender.baskets, ahead.baskets] + sender.baskets + ahead.baskets
        for some in [told.baskets] + told.baskets:
            self.assertFalse(any(some is kept for kept in held))

    def test_a_field_handed_in_again_is_taken_anew(self):
        sender = three()
        again = Sender(sender.first, sender.second, sender.baskets)
        self.assertEqual(whole(again), whole(sender))
        self.assertIsNot(again.baskets, sender.baskets)
        for one, other in zip(again.baskets, sender.baskets):
            self.assertIsNot(one, other)


if __name__ == "__main__":
    unittest.main()
