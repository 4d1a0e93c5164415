import ast
import importlib
import inspect
import pathlib
import unittest

from swapbook import baskets, books, desk, errors, homes, pairs, rounds, scales, senders, stairs, turning

PACKAGE = pathlib.Path(__file__).resolve().parent.parent / "swapbook"
REACHING_OUT = ("open", "input", "print", "eval", "exec", "compile", "__import__", "hash", "id")
GREATEST = 10 ** 60 - 1

# Of each file its functions and classes with the names of their arguments; None for classes that others make.
INTERFACE = {
    "baskets": {"plus": "one other", "less": "one other", "times": "some many", "weighed": "one other"},
    "books": {"Book": None, "book_of": "many swaps", "led": "book basket road"},
    "stairs": {"stairs_of": "rows", "Stairs": None, "stairs": "book"},
    "homes": {"home": "book basket", "road": "book one other", "many_homes": "book", "homes": "book"},
    "scales": {"Scale": None, "Line": "weights", "Rest": "rest weights", "fair": "book scale",
               "parting": "book one other"},
    "turning": {"turn_of": "book basket"},
    "rounds": {"rounds": "book", "plain": "book road", "plain_road": "book one other"},
    "pairs": {"joined": "one other", "met": "one other", "within": "one other"},
    "senders": {"Sender": "first second baskets"},
    "desk": {"Desk": ""},
}
METHODS = {
    ("scales", "Scale"): {"weigh": "basket", "levels": "basket"},
    ("senders", "Sender"): {"sent": "basket", "back": "basket", "bar": "basket", "lost": "", "behind": "other"},
    ("desk", "Desk"): {"tell": "line"},
}
OBJECTS = (books.Book, stairs.Stairs, scales.Scale, senders.Sender)


def arguments(asked):
    return " ".join(name for name in inspect.signature(asked).parameters if name != "self")


def picture(value):
    """All that a value holds, so that two pictures are equal just where the values are."""
    if isinstance(value, (list, tuple)):
        return type(value), [picture(one) for one in value]
    if isinstance(value, OBJECTS):
        return type(value), [(name, picture(field)) for name, field in sorted(vars(value).items())]
    return type(value), value


def numbers_in(value):
    if isinstance(value, (list, tuple)):
        return [number for one in value for number in numbers_in(one)]
    if isinstance(value, OBJECTS):
        return [number for field in vars(value).values() for number in numbers_in(field)]
    return [] if value is None or isinstance(value, str) else [value]


def spoil(value):
    """Change each list that was told, and those within it; objects are only read."""
    if isinstance(value, (list, tuple)):
        for one in value:
            spoil(one)
    if isinstance(value, list):
        value.append(99)
        value[0] = [7]


class NothingFromOutside(unittest.TestCase):
    # Without an import from outside there is no clock, no chance and no file.
    def test_each_file_draws_from_the_package_alone(self):
        files = sorted(PACKAGE.rglob("*.py"))
        self.assertTrue(files)
        for file in files:
            for node in ast.walk(ast.parse(file.read_text(encoding="utf-8"))):
                with self.subTest(file=file.name, line=getattr(node, "lineno", 0)):
                    self.assertNotIsInstance(node, ast.Import)
                    if isinstance(node, ast.ImportFrom):
                        self.assertEqual(node.module.partition(".")[0], "swapbook")
                    if isinstance(node, ast.Name):
                        self.assertNotIn(node.id, REACHING_OUT)

    def test_no_number_is_other_than_whole(self):
        for file in sorted(PACKAGE.rglob("*.py")):
            for node in ast.walk(ast.parse(file.read_text(encoding="utf-8"))):
                with self.subTest(file=file.name, line=getattr(node, "lineno", 0)):
                    self.assertNotIsInstance(node, ast.Div)
                    if isinstance(node, ast.Constant):
                        self.assertNotIsInstance(node.value, (float, complex))


class Interface(unittest.TestCase):
    def test_everything_is_there_under_its_name(self):
        for file, names in INTERFACE.items():
            module = importlib.import_module(f"swapbook.{file}")
            for name, told in names.items():
                with self.subTest(file=file, name=name):
                    asked = getattr(module, name)
                    self.assertEqual(inspect.isclass(asked), name[0].isupper())
                    self.assertEqual(asked.__module__, f"swapbook.{file}")
                    if told is not None:
                        self.assertEqual(arguments(asked), told)

    def test_methods(self):
        for (file, name), methods in METHODS.items():
            for method, told in methods.items():
                with self.subTest(name=name, method=method):
                    asked = getattr(getattr(importlib.import_module(f"swapbook.{file}"), name), method)
                    self.assertEqual(arguments(asked), told)

    def test_lines_and_rests_are_scales(self):
        self.assertTrue(issubclass(scales.Line, scales.Scale))
        self.assertTrue(issubclass(scales.Rest, scales.Scale))


class Market:
    """What is handed in, made anew for each test: a small market, or one with great numbers."""

    def __init__(self, great):
        more = GREATEST if great else 1
        self.book = books.book_of(3, [[-3 * more, -1, 1], [-12, more, 0], [-15, more - 1, 1], [0, 0, 0]])
        self.other = books.book_of(3, [[4, 0, 0], [0, 6 * more, 0], [0, 0, 10]])
        self.empty = books.book_of(3, [])
        self.basket, self.far = [5, -6, 7 * more], [4, -5, 0]
        self.nothing, self.road = [0, 0, 0], [1, -2, 3, 4 * more]
        self.rows = [[2, 4, more], [3, 5, 0], [0, 0, 0]]
        self.line, self.rest = scales.Line([1, 12, 15]), scales.Rest(7, [1, 12, -15])
        self.images = [[0, 0, 5], [2, 0, 0], [0, more, 0]]
        self.sender = senders.Sender(self.empty, self.other, self.images)
        self.ahead = senders.Sender(self.book, self.empty, [[0] * 3] * 3)

    def asks(self):
        """Each function and method, by values that were handed in and are to stay as they are."""
        two = (self.basket, self.far), (self.far, self.far), (self.nothing, self.basket)
        told = [
            lambda: baskets.plus(self.basket, self.far), lambda: baskets.less(self.basket, self.basket),
            lambda: baskets.times(self.basket, 1), lambda: baskets.weighed(self.basket, self.far),
            lambda: books.book_of(3, self.rows), lambda: books.led(self.book, self.basket, self.road),
            lambda: books.led(self.empty, self.basket, []), lambda: stairs.stairs_of(self.rows),
            lambda: stairs.stairs(self.book), lambda: stairs.stairs_of([self.basket]),
            lambda: homes.many_homes(self.book), lambda: homes.homes(books.book_of(1, [[9], [6]])),
            lambda: self.line.weigh(self.basket), lambda: self.rest.levels(self.basket),
            lambda: scales.fair(self.book, self.line), lambda: scales.fair(self.other, self.rest),
            lambda: rounds.rounds(self.book), lambda: rounds.plain(self.book, self.road),
            lambda: rounds.plain(self.empty, []), lambda: self.sender.lost(), lambda: self.ahead.lost(),
            lambda: self.sender.behind(self.ahead), lambda: senders.Sender(self.empty, self.book, self.images),
        ]
        for book in (self.book, self.other, self.empty):
            for basket in (self.basket, self.far, self.nothing):
                told += [lambda book=book, basket=basket: homes.home(book, basket),
                         lambda book=book, basket=basket: turning.turn_of(book, basket)]
            for one, other in two:
                told += [lambda book=book, one=one, other=other, ask=ask: ask(book, one, other)
                         for ask in (homes.road, scales.parting, rounds.plain_road)]
            for other in (self.book, self.other, self.empty):
                told += [lambda book=book, other=other, ask=ask: ask(book, other)
                         for ask in (pairs.joined, pairs.met, pairs.within)]
        for sender in (self.sender, self.ahead):
            for basket in (self.basket, self.far, self.nothing):
                told += [lambda basket=basket, ask=ask: ask(basket) for ask in (sender.sent, sender.back, sender.bar)]
        return told

    def refusals(self):
        short = [1, 2]
        return [
            lambda: baskets.plus(self.basket, short), lambda: books.book_of(3, self.rows + [short]),
            lambda: books.book_of(9, self.rows), lambda: books.book_of(3, self.rows * 5),
            lambda: books.led(self.book, short, self.road), lambda: books.led(self.book, self.basket, short),
            lambda: stairs.stairs_of(self.rows + [short]), lambda: homes.home(self.book, short),
            lambda: homes.homes(self.empty), lambda: homes.homes(books.book_of(1, [[201]])),
            lambda: scales.Rest(1, self.basket), lambda: self.line.weigh(short), lambda: self.rest.levels(short),
            lambda: scales.fair(self.book, scales.Line(short)), lambda: scales.parting(self.book, short, self.far),
            lambda: turning.turn_of(self.book, short), lambda: rounds.plain(self.book, short),
            lambda: rounds.plain_road(self.book, self.far, short), lambda: pairs.met(self.book, books.book_of(2, [])),
            lambda: pairs.joined(self.book, books.book_of(3, [self.basket] * 12)),
            lambda: senders.Sender(self.book, self.empty, self.images),
            lambda: senders.Sender(self.book, self.empty, self.images[:2]), lambda: self.sender.sent(short),
            lambda: self.sender.back(short), lambda: self.sender.bar(short),
            lambda: self.ahead.behind(self.sender), lambda: desk.Desk().tell("home egg"),
        ]

    def held(self):
        return [picture(value) for name, value in sorted(vars(self).items())]


class WholeProgram(unittest.TestCase):
    def test_nothing_that_is_handed_in_is_changed(self):
        for great in (False, True):
            market = Market(great)
            before = market.held()
            for place, ask in enumerate(market.asks()):
                with self.subTest(great=great, place=place):
                    ask()
                    self.assertEqual(market.held(), before)

    def test_told_lists_are_the_askers_own(self):
        for great in (False, True):
            market = Market(great)
            before = market.held()
            asks = market.asks()
            answers = [picture(ask()) for ask in asks]
            for place, ask in enumerate(asks):
                with self.subTest(great=great, place=place):
                    spoil(ask())
                    self.assertEqual(market.held(), before)
                    self.assertEqual(picture(ask()), answers[place])

    def test_what_was_told_stays_as_it_is(self):
        for great in (False, True):
            asks = Market(great).asks()
            told = [ask() for ask in asks]
            kept = [picture(value) for value in told]
            for ask in asks:
                spoil(ask())
            self.assertEqual([picture(value) for value in told], kept)

    def test_no_two_told_lists_are_one(self):
        market = Market(False)
        told = [ask() for ask in market.asks()]
        for value in told:
            spoil(value)
        again = [picture(ask()) for ask in market.asks()]
        self.assertEqual(again, [picture(ask()) for ask in Market(False).asks()])

    def test_a_list_handed_in_may_be_changed_behind_the_call(self):
        swaps, images, weights = [[2, 0], [0, 3]], [[1, 0], [0, 1]], [1, 2]
        book = books.book_of(2, swaps)
        sender = senders.Sender(books.book_of(2, []), book, images)
        line, rest = scales.Line(weights), scales.Rest(2, weights)
        kept = [picture(value) for value in (book, sender, line, rest)]
        for some in (swaps[0], images[1], swaps, images, weights):
            some.reverse()
            some.append(5)
        self.assertEqual([picture(value) for value in (book, sender, line, rest)], kept)
        self.assertEqual(sender.sent([1, 1]), [1, 1])
        self.assertEqual(homes.home(book, [3, 4]), [1, 1])

    def test_behind_a_refusal_everything_is_answered_as_ever(self):
        for great in (False, True):
            market = Market(great)
            asks = market.asks()
            answers = [picture(ask()) for ask in asks]
            before = market.held()
            for place, refused in enumerate(market.refusals()):
                with self.subTest(great=great, place=place):
                    self.assertRaises(errors.SwapError, refused)
                    self.assertEqual(market.held(), before)
            self.assertEqual([picture(ask()) for ask in asks], answers)

    def test_all_numbers_are_whole(self):
        for great in (False, True):
            market = Market(great)
            for place, ask in enumerate(market.asks()):
                told = ask()
                if isinstance(told, bool):
                    continue
                with self.subTest(great=great, place=place):
                    self.assertEqual({type(number) for number in numbers_in(told)} - {int}, set())

    def test_a_road_or_a_scale_and_never_both(self):
        for great in (False, True):
            market = Market(great)
            for book in (market.book, market.other, market.empty):
                for one in (market.basket, market.far, market.nothing):
                    for other in (market.basket, market.far, market.nothing, market.book.swaps[0]):
                        way, scale = homes.road(book, one, other), scales.parting(book, one, other)
                        self.assertEqual(way is None, scale is not None)
                        if way is not None:
                            self.assertEqual(books.led(book, one, way), other)
                        else:
                            self.assertIsNone(scales.fair(book, scale))
                            self.assertFalse(scale.levels(baskets.less(other, one)))


if __name__ == "__main__":
    unittest.main()
