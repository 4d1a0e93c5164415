import unittest

from swapbook import errors
from swapbook.baskets import less, plus, weighed
from swapbook.books import book_of, led
from swapbook.desk import Desk
from swapbook.errors import SwapError
from swapbook.homes import home, homes, road
from swapbook.pairs import joined, met, within
from swapbook.rounds import plain, plain_road
from swapbook.scales import Line, Rest, fair, parting
from swapbook.senders import Sender
from swapbook.stairs import stairs_of
from swapbook.turning import turn_of

WITHOUT_FIELDS = (
    "NotAlike", "BadWares", "TooMany", "BadBasket", "BadRoad", "Endless", "TooGreat", "BadRest", "BadScale",
    "OtherWares", "BadBaskets", "OtherBook", "NoLine", "BadNames", "NoBook", "NoName", "NoSwap",
)
NAMES = WITHOUT_FIELDS + ("BadSwap", "NotKept")
CLASSES = {name: getattr(errors, name) for name in NAMES}


def refusal_of(ask):
    try:
        ask()
    except ValueError as refusal:
        return refusal
    return None


def made(name):
    if name == "BadSwap":
        return errors.BadSwap(3)
    if name == "NotKept":
        return errors.NotKept(3, None)
    return CLASSES[name]("words")


class Classes(unittest.TestCase):
    def test_swap_error_stands_straight_beneath_value_error(self):
        self.assertEqual(SwapError.__bases__, (ValueError,))

    def test_each_refusal_stands_straight_beneath_swap_error(self):
        for name in NAMES:
            with self.subTest(name):
                self.assertEqual(CLASSES[name].__bases__, (SwapError,))
                self.assertEqual(CLASSES[name].__name__, name)

    def test_no_refusal_stands_beneath_another_one(self):
        for one in NAMES:
            for other in NAMES:
                with self.subTest(one=one, other=other):
                    self.assertEqual(issubclass(CLASSES[one], CLASSES[other]), one == other)

    def test_nothing_else_stands_beneath_swap_error(self):
        beneath = [name for name in vars(errors)
                   if isinstance(getattr(errors, name), type) and issubclass(getattr(errors, name), SwapError)]
        self.assertEqual(sorted(beneath), sorted(NAMES + ("SwapError",)))

    def test_a_raised_refusal_is_caught_by_its_own_class_and_those_above_alone(self):
        for name in NAMES:
            for catcher in NAMES + ("SwapError",):
                with self.subTest(name=name, catcher=catcher):
                    caught = False
                    try:
                        try:
                            raise made(name)
                        except getattr(errors, catcher):
                            caught = True
                    except ValueError:
                        pass
                    self.assertEqual(caught, catcher in (name, "SwapError"))


class Fields(unittest.TestCase):
    def test_bad_swap_has_its_place(self):
        self.assertEqual(errors.BadSwap(7).place, 7)

    def test_not_kept_has_its_place_and_its_scale(self):
        scale = object()
        refusal = errors.NotKept(4, scale)
        self.assertEqual(refusal.place, 4)
        self.assertIs(refusal.scale, scale)

    def test_two_refusals_keep_their_fields_apart(self):
        one = errors.BadSwap(0)
        other = errors.BadSwap(11)
        self.assertEqual((one.place, other.place), (0, 11))

    def test_the_others_have_no_fields(self):
        for name in WITHOUT_FIELDS:
            with self.subTest(name):
                self.assertEqual(vars(made(name)), {})


class ToldRefusals(unittest.TestCase):
    # What the program itself refuses, not what a test makes.
    def test_each_is_of_its_own_class_and_no_other_refusals(self):
        book, other = book_of(2, [[1, -1]]), book_of(1, [[2]])
        sender = Sender(book_of(2, []), other, [[1], [2]])
        desk = Desk()
        desk.tell("wares egg hen")
        full = Desk()
        full.tell("wares egg hen")
        for swap in range(12):
            full.tell("swap egg = hen")
        asked = (
            ("NotAlike", lambda: plus([1], [])),
            ("NotAlike", lambda: less([1], [1, 2])),
            ("NotAlike", lambda: weighed([], [1])),
            ("BadWares", lambda: book_of(0, [])),
            ("TooMany", lambda: book_of(1, [[1]] * 13)),
            ("BadSwap", lambda: book_of(1, [[1, 2]])),
            ("BadBasket", lambda: led(book, [1], [1])),
            ("BadRoad", lambda: led(book, [1, 2], [])),
            ("NotAlike", lambda: stairs_of([[1], [1, 2]])),
            ("BadBasket", lambda: home(book, [1])),
            ("BadBasket", lambda: road(book, [1], [1, 2])),
            ("BadBasket", lambda: road(book, [1, 2], [1, 2, 3])),
            ("BadBasket", lambda: road(book, [1], [1, 2, 3])),
            ("Endless", lambda: homes(book)),
            ("TooGreat", lambda: homes(book_of(1, [[201]]))),
            ("BadRest", lambda: Rest(1, [1, 2])),
            ("BadRest", lambda: Rest(0, [1, 2])),
            ("BadRest", lambda: Rest(-2, [1, 2])),
            ("BadBasket", lambda: Line([1, 2]).weigh([1])),
            ("BadBasket", lambda: Line([1, 2]).levels([1, 2, 3])),
            ("BadBasket", lambda: Rest(2, [1, 2]).weigh([1, 2, 3])),
            ("BadBasket", lambda: Rest(2, [1, 2]).levels([1])),
            ("BadScale", lambda: fair(book, Line([1]))),
            ("BadScale", lambda: fair(book, Rest(2, [1, 2, 3]))),
            ("BadBasket", lambda: parting(book, [1], [1, 2])),
            ("BadBasket", lambda: parting(book, [1, 2], [1, 2, 3])),
            ("BadBasket", lambda: parting(book, [1], [1, 2, 3])),
            ("BadBasket", lambda: turn_of(book, [1])),
            ("BadRoad", lambda: plain(book, [])),
            ("BadRoad", lambda: plain(book, [1, 2])),
            ("BadBasket", lambda: plain_road(book, [1], [1, 2])),
            ("BadBasket", lambda: plain_road(book, [1, 2], [1, 2, 3])),
            ("BadBasket", lambda: plain_road(book, [1], [1, 2, 3])),
            ("OtherWares", lambda: joined(book, other)),
            ("OtherWares", lambda: met(book, other)),
            ("OtherWares", lambda: within(other, book)),
            ("OtherWares", lambda: joined(book_of(1, [[1]] * 12), book_of(2, [[1, 1]] * 12))),
            ("TooMany", lambda: joined(book_of(1, [[1]] * 12), other)),
            ("BadBaskets", lambda: Sender(book, other, [[1]])),
            ("BadBaskets", lambda: Sender(book, other, [[1], [1, 2]])),
            ("NotKept", lambda: Sender(book, other, [[1], [2]])),
            ("BadBasket", lambda: sender.sent([1])),
            ("BadBasket", lambda: sender.back([1, 2])),
            ("BadBasket", lambda: sender.bar([])),
            ("OtherBook", lambda: sender.behind(sender)),
            ("NoLine", lambda: Desk().tell("help")),
            ("NoLine", lambda: desk.tell("home 0 egg")),
            ("BadNames", lambda: Desk().tell("wares nothing")),
            ("BadNames", lambda: desk.tell("wares a b c d e f g h i")),
            ("NoBook", lambda: Desk().tell("home egg")),
            ("NoName", lambda: desk.tell("home goat")),
            ("NoSwap", lambda: desk.tell("drop 0")),
            ("TooMany", lambda: full.tell("swap egg = hen")),
        )
        for name, ask in asked:
            with self.subTest(name):
                refusal = refusal_of(ask)
                self.assertIsInstance(refusal, ValueError)
                self.assertIsInstance(refusal, SwapError)
                self.assertEqual([one for one in NAMES if isinstance(refusal, CLASSES[one])], [name])
        self.assertEqual(sorted({name for name, ask in asked}), sorted(NAMES))


if __name__ == "__main__":
    unittest.main()
