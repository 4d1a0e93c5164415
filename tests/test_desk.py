import inspect
import itertools
import random
import re
import unittest

from swapbook.books import book_of, led
from swapbook.desk import Desk
from swapbook.errors import BadNames, NoBook, NoLine, NoName, NoSwap, SwapError, TooMany
from swapbook.homes import home
from swapbook.rounds import plain_road
from swapbook.scales import Line, Rest, fair, parting
from swapbook.turning import turn_of

# The form of lines once more, by another reading than the program's own.
WORD = r"(?![-+=](?: |$))[^ ]+"
TERM = rf"(?:[1-9][0-9]{{0,11}} )?{WORD}"
SIDE = rf"(?:- )?{TERM}(?: [-+] {TERM})*"
FORMS = {
    "wares": re.compile(rf"wares(?: {WORD})+"),
    "swap": re.compile(rf"swap ({SIDE}) = ({SIDE})"),
    "drop": re.compile(r"drop ([0-9]|[1-9][0-9])"),
    "ask": re.compile(rf"ask ({SIDE}) = ({SIDE})"),
    "home": re.compile(rf"home ({SIDE})"),
    "turn": re.compile(rf"turn ({SIDE})"),
}
ONE_TERM = re.compile(rf"(?:^|([-+]) )(?:([1-9][0-9]{{0,11}}) )?({WORD})")
NAME = re.compile("[a-z]{1,12}")


def side_terms(side):
    if side == "nothing":
        return []
    return [((-1 if sign == "-" else 1) * int(count or 1), name) for sign, count, name in ONE_TERM.findall(side)]


def written(names, basket):
    terms = [f"{'-' if number < 0 else '+'} {abs(number)} {name}" for number, name in zip(basket, names) if number]
    return re.sub(r"^\+ ", "", " ".join(terms)) or "nothing"


def is_form(line):
    return any(form.fullmatch(line) for form in FORMS.values())


class Model:
    """What a desk answers by the other modules, without the desk's own."""

    def __init__(self):
        self.names = None
        self.swaps = []

    def basket(self, side):
        basket = [0] * len(self.names)
        for many, name in side_terms(side):
            basket[self.names.index(name)] += many
        return basket

    def refusal(self, line):
        words = line.split(" ")
        form = FORMS.get(words[0])
        match = form and form.fullmatch(line)
        if not match:
            return NoLine
        if words[0] == "wares":
            names = words[1:]
            good = all(NAME.fullmatch(name) and name != "nothing" for name in names)
            return None if good and len(set(names)) == len(names) and len(names) <= 8 else BadNames
        if self.names is None:
            return NoBook
        if words[0] == "drop":
            return None if int(words[1]) < len(self.swaps) else NoSwap
        if any(name not in self.names for side in match.groups() for many, name in side_terms(side)):
            return NoName
        return TooMany if words[0] == "swap" and len(self.swaps) == 12 else None

    def book(self):
        return book_of(len(self.names), self.swaps)

    def answer(self, line):
        """The answer to a line that is not refused; of a scale the word alone."""
        order = line.split(" ")[0]
        if order == "wares":
            self.names, self.swaps = line.split(" ")[1:], []
            return f"wares {len(self.names)}"
        if order == "drop":
            self.swaps.pop(int(line.split(" ")[1]))
            return f"drop {len(self.swaps)}"
        sides = [self.basket(side) for side in FORMS[order].fullmatch(line).groups()]
        if order == "swap":
            self.swaps.append([b - a for a, b in zip(*sides)])
            return f"swap {len(self.swaps) - 1}"
        if order == "home":
            return "home " + written(self.names, home(self.book(), sides[0]))
        if order == "turn":
            return f"turn {turn_of(self.book(), sides[0])[0]}"
        way = plain_road(self.book(), *sides)
        if way is not None:
            return " ".join(["road"] + [str(number) for number in way])
        return "line" if isinstance(parting(self.book(), *sides), Line) else "rest"


def desk_of(*lines):
    desk = Desk()
    for line in lines:
        desk.tell(line)
    return desk


def market():
    return desk_of("wares egg hen goat", "swap 3 egg + hen = goat", "swap 12 egg = hen")


def full():
    """A desk with twelve swaps: swap k brings k + 1 eggs."""
    return desk_of("wares egg hen", *[f"swap nothing = {k + 1} egg" for k in range(12)])


class Talk(unittest.TestCase):
    def assert_told(self, desk, *talk):
        for line, answer in talk:
            with self.subTest(line):
                if isinstance(answer, str):
                    told = desk.tell(line)
                    self.assertIs(type(told), str)
                    self.assertEqual(told, answer)
                else:
                    self.assertRaises(answer, desk.tell, line)

    def assert_scale(self, told, book, one, other, word):
        """told is a line that tells a scale as parting does."""
        words = told.split(" ")
        self.assertEqual(words[0], word)
        numbers = [int(number) for number in words[1:]]
        self.assertEqual(words[1:], [str(number) for number in numbers])
        scale = Line(numbers) if word == "line" else Rest(numbers[0], numbers[1:])
        if word == "rest":
            self.assertEqual(scale.weights, numbers[1:])
        self.assertEqual(len(scale.weights), book.many)
        self.assertIsNone(fair(book, scale))
        self.assertFalse(scale.levels([b - a for a, b in zip(one, other)]))
        self.assertEqual(type(scale), type(parting(book, one, other)))


class Interface(unittest.TestCase):
    def test_arguments_bear_their_names(self):
        self.assertEqual(list(inspect.signature(Desk).parameters), [])
        self.assertEqual(list(inspect.signature(Desk.tell).parameters), ["self", "line"])
        self.assertEqual(Desk().tell(line="wares egg"), "wares 1")


class Wares(Talk):
    def test_one_to_eight_names(self):
        names = "egg hen goat cow pig ewe ox bee".split(" ")
        for many in range(1, 9):
            self.assert_told(Desk(), (" ".join(["wares"] + names[:many]), f"wares {many}"))
        self.assert_told(Desk(), ("wares egg hen goat cow pig ewe ox bee fox", BadNames))

    def test_names_of_1_and_12_letters_and_13(self):
        self.assert_told(
            Desk(), ("wares a", "wares 1"), ("home a", "home 1 a"), ("wares z", "wares 1"), ("home 2 z", "home 2 z"),
            ("wares abcdefghijkl nopqrstuvwxy", "wares 2"), ("home - abcdefghijkl", "home - 1 abcdefghijkl"),
            ("wares abcdefghijklm", BadNames), ("wares a abcdefghijklm", BadNames), ("wares nothingnothi", "wares 1"),
        )

    def test_each_letter(self):
        for letter in "abcdefghijklmnopqrstuvwxyz":
            self.assert_told(Desk(), (f"wares {letter} {letter * 2}", "wares 2"), (f"turn {letter}", "turn 0"))

    def test_each_other_sign(self):
        for sign in map(chr, range(ord(" "), ord("~") + 1)):
            if sign in "abcdefghijklmnopqrstuvwxyz":
                continue
            refusal = NoLine if sign in " +-=" else BadNames
            self.assert_told(Desk(), (f"wares {sign}", refusal), (f"wares egg {sign}", refusal))
            if sign != " ":
                for word in (f"a{sign}", f"{sign}a", f"a{sign}b", sign * 2):
                    self.assert_told(Desk(), (f"wares {word}", BadNames), (f"wares egg {word}", BadNames))

    def test_words_that_are_no_names(self):
        for word in ("nothing", "Egg", "EGG", "eGg", "3", "egg3", "03", "egg-hen", "-egg", "e.g", "++", "==", "--",
                     "+-"):
            self.assert_told(
                Desk(), (f"wares {word}", BadNames), (f"wares egg {word}", BadNames), (f"wares {word} egg", BadNames),
            )

    def test_a_name_twice(self):
        self.assert_told(
            Desk(), ("wares egg egg", BadNames), ("wares egg hen egg", BadNames), ("wares a b c d e f g a", BadNames),
            ("wares egg eggs", "wares 2"),
        )

    def test_words_that_begin_lines_and_answers_may_be_names(self):
        self.assert_told(
            Desk(), ("wares wares swap drop ask home turn road line", "wares 8"), ("home home", "home 1 home"),
            ("swap swap = 2 drop", "swap 0"), ("swap 3 wares = ask + turn", "swap 1"), ("home wares", "home 1 wares"),
            ("ask swap = 2 drop", "road 1 0"), ("turn drop", "turn 0"), ("drop 0", "drop 1"), ("drop drop", NoLine),
            ("home - 2 turn + line", "home - 2 turn + 1 line"), ("ask ask = ask", "road 0"),
        )
        self.assert_told(Desk(), ("wares nothing", BadNames), ("wares home nothing", BadNames),
                         ("wares rest", "wares 1"))

    def test_the_order_of_wares_is_that_of_the_names(self):
        self.assert_told(
            Desk(), ("wares hen egg", "wares 2"), ("home egg + hen", "home 1 hen + 1 egg"),
            ("wares egg hen", "wares 2"), ("home hen + egg", "home 1 egg + 1 hen"),
        )

    def test_a_new_book_forgets_the_one_before(self):
        desk = market()
        self.assertEqual(desk.tell("wares egg hen"), "wares 2")
        self.assert_told(
            desk, ("home 12 egg", "home 12 egg"), ("home goat", NoName), ("drop 0", NoSwap), ("ask egg = egg", "road"),
            ("swap hen = 12 egg", "swap 0"), ("ask 12 egg = hen", "road -1"), ("wares cow egg", "wares 2"),
            ("home hen", NoName), ("home egg", "home 1 egg"), ("turn cow", "turn 0"), ("drop 0", NoSwap),
        )

    def test_a_new_book_of_the_same_names(self):
        self.assert_told(
            market(), ("turn 3 egg + hen - goat", "turn 1"), ("wares egg hen goat", "wares 3"), ("drop 0", NoSwap),
            ("turn 3 egg + hen - goat", "turn 0"),
        )


class Sides(Talk):
    def test_terms(self):
        desk = desk_of("wares egg hen goat")
        self.assert_told(
            desk, ("home nothing", "home nothing"), ("home egg", "home 1 egg"), ("home 1 egg", "home 1 egg"),
            ("home - egg", "home - 1 egg"), ("home - 5 egg", "home - 5 egg"),
            ("home 2 egg + hen", "home 2 egg + 1 hen"), ("home egg - hen", "home 1 egg - 1 hen"),
            ("home - egg + 3 hen - 10 goat", "home - 1 egg + 3 hen - 10 goat"),
            ("home - egg - hen - goat", "home - 1 egg - 1 hen - 1 goat"), ("home goat + hen", "home 1 hen + 1 goat"),
            ("home goat - egg", "home - 1 egg + 1 goat"), ("home - hen + goat", "home - 1 hen + 1 goat"),
        )

    def test_a_name_several_times(self):
        desk = desk_of("wares egg hen")
        self.assert_told(
            desk, ("home egg + egg", "home 2 egg"), ("home 3 egg + hen - 5 egg", "home - 2 egg + 1 hen"),
            ("home egg - egg", "home nothing"), ("home - egg + egg", "home nothing"),
            ("home - egg - egg", "home - 2 egg"), ("home 2 hen - egg - hen + egg - hen", "home nothing"),
            ("home hen + egg - hen", "home 1 egg"),
            ("home " + " + ".join(["999999999999 hen"] * 20), f"home {20 * 999999999999} hen"),
        )

    def test_counts_of_1_and_12_figures_and_13(self):
        desk = desk_of("wares egg hen")
        self.assert_told(
            desk, ("home 9 egg", "home 9 egg"), ("home 10 egg", "home 10 egg"),
            ("home 100000000000 egg", "home 100000000000 egg"),
            ("home 999999999999 egg - 123456789012 hen", "home 999999999999 egg - 123456789012 hen"),
            ("home 1000000000000 egg", NoLine), ("home 9999999999999 egg", NoLine),
            ("home egg - 1234567890123 hen", NoLine), ("home 999999999999 egg + egg", "home 1000000000000 egg"),
            ("home 1000000000000", NoName),
        )

    def test_words_that_are_no_counts(self):
        desk = desk_of("wares egg hen")
        for word in (
            "0", "00", "03", "012", "000000000001", "nothing", "egg", "hen", "x", "3x", "-3", "+3", "1.5", "3,0", "1e3",
            "1_0", "0x1", "one", "3-", "=3", "1000000000000", "?", "'", "\\",
        ):
            self.assert_told(
                desk, (f"home {word} egg", NoLine), (f"home - {word} egg", NoLine), (f"home hen + {word} egg", NoLine),
                (f"home {word} egg - hen", NoLine), (f"turn {word} egg", NoLine), (f"ask {word} egg = hen", NoLine),
                (f"ask hen = {word} egg", NoLine), (f"swap {word} egg = hen", NoLine),
                (f"swap hen = {word} egg", NoLine),
            )

    def test_each_sign_that_is_no_figure(self):
        desk = full()
        for sign in map(chr, range(ord("!"), ord("~") + 1)):
            if sign not in "0123456789":
                self.assert_told(
                    desk, (f"home 1{sign} egg", NoLine), (f"home {sign}1 egg", NoLine), (f"drop {sign}", NoLine),
                    (f"drop 1{sign}", NoLine), (f"drop {sign}1", NoLine),
                )

    def test_the_named_examples(self):
        for desk in (market(), desk_of("wares egg")):
            self.assert_told(
                desk, ("home nothing + egg", NoName), ("home 3", NoName), ("home 3 4", NoName), ("home 03 egg", NoLine),
                ("home 0 egg", NoLine),
            )
        # Without a book: those that have the form are refused for it.
        self.assert_told(
            Desk(), ("home nothing + egg", NoBook), ("home 3", NoBook), ("home 3 4", NoBook), ("home 03 egg", NoLine),
            ("home 0 egg", NoLine),
        )

    def test_words_that_no_ware_has(self):
        desk = desk_of("wares egg hen")
        for word in (
            "goat", "nothing", "3", "03", "0", "Egg", "eggs", "eg", "egg+hen", "egg=hen", "-egg", "+3", "==", "--",
            "swap", "abcdefghijklm", "~", "!", "egg.",
        ):
            lines = [
                f"home - {word}", f"home 2 {word}", f"turn egg + {word}", f"ask egg - {word} = hen", f"turn - 5 {word}",
                f"ask hen = 3 {word}", f"swap {word} + egg = hen", f"swap egg = hen - {word}", f"home {word} - {word}",
                f"swap egg + hen = egg - {word} + {word}",
            ]
            if word != "nothing":
                lines += [f"home {word}", f"ask {word} = {word}"]
            self.assert_told(desk, *[(line, NoName) for line in lines])
        self.assert_told(desk, ("home nothing", "home nothing"), ("ask nothing = nothing", "road"))

    def test_nothing_stands_alone(self):
        desk = market()
        self.assert_told(
            desk, ("ask nothing = nothing", "road 0 0"), ("ask nothing = 3 egg + hen - goat", "road -1 0"),
            ("ask 3 egg + hen - goat = nothing", "road 1 0"), ("turn nothing", "turn 1"),
            ("home nothing nothing", NoLine), ("home - nothing", NoName), ("home 3 nothing", NoName),
            ("home egg + nothing", NoName), ("home nothing - nothing", NoName), ("home nothing egg", NoLine),
        )


class Forms(Talk):
    BROKEN = (
        "", " ", "  ", "egg", "Home egg", "HOME egg", "homes egg", "hom egg", "help", "nothing", "3", "+", "-", "=",
        "road", "line 1", "rest 2 1", "home", "turn", "swap", "ask", "drop", "wares", " home egg", "home egg ",
        "home  egg", "home ", "turn  egg", " turn egg", "turn egg ", "drop  0", "drop 0 ", " drop 0", "wares  egg",
        "wares egg ", " wares egg", "wares egg  hen", "wares ", "home 3  egg", "home egg +  hen", "home egg  + hen",
        "home egg + hen ", "home\tegg", "home +", "home -", "home =", "home + egg", "home egg +", "home egg -",
        "home egg + + hen", "home egg + - hen", "home egg - - hen", "home egg - + hen", "home - - egg", "home - + egg",
        "home + - egg", "home 3 +", "home 3 + egg +", "home egg hen", "home 3 4 egg", "home 3 egg hen", "home egg 3",
        "home egg 3 hen", "home nothing egg", "home - 3 4 5", "home egg = hen", "home = egg", "home egg =",
        "home 3 = egg", "turn egg = hen", "turn", "turn = egg", "turn egg =", "turn egg hen", "turn + egg", "turn - ",
        "turn egg +", "turn 0 egg", "swap egg hen", "swap egg", "swap =", "swap egg =", "swap = egg",
        "swap egg = hen = egg", "swap egg == hen", "swap egg = = hen", "swap = = =", "swap = egg =", "swap egg + = hen",
        "swap egg = + hen", "swap + egg = hen", "swap egg = hen +", "swap egg = hen -", "swap egg - = hen",
        "swap egg = 0 hen", "swap egg = hen egg", "swap egg hen = egg", "swap nothing", "swap nothing nothing = egg",
        "ask egg hen", "ask egg", "ask =", "ask egg =", "ask = egg", "ask egg = hen = egg", "ask egg == hen",
        "ask egg = = hen", "ask egg=hen", "swap egg=hen", "ask egg =hen", "ask egg= hen", "ask egg + = hen",
        "ask egg = - - hen", "ask + egg = hen", "ask egg = hen ", "ask  egg = hen", "ask egg  = hen", "ask egg =  hen",
        "ask egg + hen", "ask egg - hen", "drop 00", "drop 01", "drop 09", "drop 000", "drop 100", "drop 123",
        "drop 012", "drop -1", "drop +1", "drop - 1", "drop + 1", "drop =", "drop 1 2", "drop 0 0", "drop egg",
        "drop 1 egg", "drop nothing", "drop a", "drop 1a", "drop a1", "drop 1.", "drop .", "wares +", "wares -",
        "wares =", "wares egg + hen", "wares egg = hen", "wares - egg", "wares egg -", "wares egg =", "wares egg hen +",
    )

    def test_the_other_reading_agrees(self):
        for line in self.BROKEN:
            self.assertFalse(is_form(line), line)

    def test_lines_that_break_the_form(self):
        for make in (Desk, lambda: desk_of("wares egg hen"), market, full):
            desk = make()
            self.assert_told(desk, *[(line, NoLine) for line in self.BROKEN])

    def test_with_signs_elsewhere_within_words(self):
        # A word that only holds +, - or = is a word like others.
        self.assert_told(
            market(), ("home egg-hen", NoName), ("home -egg", NoName), ("home -3", NoName), ("home =egg", NoName),
            ("home -3 egg", NoLine), ("home egg -hen", NoLine), ("home egg + -hen", NoName), ("ask egg = =hen", NoName),
            ("wares egg -hen", BadNames), ("wares a=b", BadNames), ("drop =0", NoLine),
        )

    def test_lines_of_400_signs(self):
        desk = desk_of("wares egg abcdefghijkl")
        line = "home egg" + " + 1 egg" * 49
        self.assertEqual(len(line), 400)
        self.assert_told(desk, (line, "home 50 egg"))
        line = "ask " + " - ".join(["999999999999 abcdefghijkl"] * 13) + " = egg"
        self.assertTrue(350 < len(line) <= 400)
        self.assertEqual(desk.tell(line).split(" ")[0], "line")
        self.assert_told(Desk(), ("wares" + " a" * 197 + " b", BadNames), ("x" * 400, NoLine), (" " * 400, NoLine))

    def test_lines_somewhat_longer(self):
        self.assert_told(desk_of("wares egg"), ("home egg" + " + egg" * 99, "home 100 egg"))


class Swaps(Talk):
    def test_the_second_side_less_the_first(self):
        for line, basket in (
            ("swap 3 egg + hen = goat", [-3, -1, 1]), ("swap goat = 3 egg + hen", [3, 1, -1]),
            ("swap egg = nothing", [-1, 0, 0]), ("swap nothing = egg", [1, 0, 0]), ("swap - egg = - hen", [1, -1, 0]),
            ("swap egg = egg", [0, 0, 0]), ("swap nothing = nothing", [0, 0, 0]),
            ("swap 2 egg - egg = 5 egg - 7 goat", [4, 0, -7]),
        ):
            desk = desk_of("wares egg hen goat", line)
            book = book_of(3, [basket])
            for end in (basket, [-number for number in basket], [1, 0, 0], [0, 1, 0]):
                told = desk.tell(f"ask nothing = {written(['egg', 'hen', 'goat'], end)}")
                way = plain_road(book, [0, 0, 0], end)
                if way is None:
                    self.assert_scale(told, book, [0, 0, 0], end, told.split(" ")[0])
                else:
                    self.assertEqual(told, " ".join(["road"] + [str(number) for number in way]))

    def test_numbers_are_counted_from_0(self):
        desk = desk_of("wares egg")
        self.assert_told(desk, *[(f"swap egg = {k} egg", f"swap {k - 1}") for k in range(1, 13)])
        self.assert_told(desk, ("swap egg = egg", TooMany), ("drop 11", "drop 11"), ("swap egg = 5 egg", "swap 11"))

    def test_the_thirteenth(self):
        desk = full()
        self.assert_told(
            desk, ("swap egg = hen", TooMany), ("swap nothing = nothing", TooMany), ("turn hen", "turn 0"),
            ("drop 12", NoSwap), ("drop 3", "drop 11"), ("swap egg = hen", "swap 11"), ("swap egg = hen", TooMany),
            ("turn hen", "turn 1"), ("wares egg", "wares 1"), ("swap egg = nothing", "swap 0"),
        )


class Drops(Talk):
    def test_those_behind_have_a_number_less(self):
        # One ware for each swap, so that a road tells which swap has which number.
        desk = desk_of("wares a b c d", *[f"swap nothing = {name}" for name in "abcd"])
        self.assert_told(
            desk, ("ask nothing = a + 2 b + 3 c + 4 d", "road 1 2 3 4"), ("drop 1", "drop 3"), ("drop 3", NoSwap),
            ("ask nothing = a + 3 c + 4 d", "road 1 3 4"), ("turn b", "turn 0"), ("drop 0", "drop 2"),
            ("ask nothing = 3 c + 4 d", "road 3 4"), ("swap nothing = b", "swap 2"),
            ("ask nothing = 2 b + 3 c + 4 d", "road 3 4 2"), ("drop 2", "drop 2"), ("drop 1", "drop 1"),
            ("ask nothing = 3 c", "road 3"), ("drop 0", "drop 0"), ("ask nothing = nothing", "road"),
            ("drop 0", NoSwap),
        )

    def test_each_number(self):
        for number in range(12):
            desk = full()
            self.assert_told(desk, (f"drop {number}", "drop 11"), ("drop 11", NoSwap), ("drop 10", "drop 10"))

    def test_numbers_that_no_swap_has(self):
        for desk, many in ((desk_of("wares egg"), 0), (market(), 2), (full(), 12)):
            for number in range(100):
                if number >= many:
                    self.assert_told(desk, (f"drop {number}", NoSwap))

    def test_how_the_number_is_written(self):
        desk = full()
        self.assert_told(
            desk, ("drop 00", NoLine), ("drop 01", NoLine), ("drop 000", NoLine), ("drop 011", NoLine),
            ("drop 100", NoLine), ("drop 111", NoLine), ("drop 11", "drop 11"), ("drop 0", "drop 10"),
            ("drop 10", NoSwap), ("drop 9", "drop 9"),
        )


class Asks(Talk):
    def test_the_market(self):
        desk, book = market(), book_of(3, [[-3, -1, 1], [-12, 1, 0]])
        self.assert_told(
            desk, ("ask 15 egg = goat", "road 1 1"), ("ask goat = 15 egg", "road -1 -1"), ("ask egg = egg", "road 0 0"),
            ("ask 30 egg = 2 goat", "road 2 2"), ("ask 30 egg - goat = goat", "road 2 2"),
            ("ask - hen = - 12 egg", "road 0 1"),
        )
        self.assert_scale(desk.tell("ask 14 egg = goat"), book, [14, 0, 0], [0, 0, 1], "line")
        self.assert_scale(desk.tell("ask nothing = - egg"), book, [0, 0, 0], [-1, 0, 0], "line")

    def test_without_a_swap(self):
        desk = desk_of("wares egg hen")
        self.assert_told(
            desk, ("ask egg = egg", "road"), ("ask nothing = nothing", "road"), ("ask egg + hen = hen + egg", "road"),
            ("ask egg - egg = nothing", "road"),
        )
        self.assert_scale(desk.tell("ask egg = hen"), book_of(2, []), [1, 0], [0, 1], "line")
        self.assert_scale(desk.tell("ask nothing = hen"), book_of(2, []), [0, 0], [0, 1], "line")

    def test_a_rest(self):
        desk, book = desk_of("wares a b", "swap nothing = 4 a", "swap 6 b = nothing"), book_of(2, [[4, 0], [0, -6]])
        for a, b in itertools.product(range(-7, 8), repeat=2):
            sign = "-" if b < 0 else "+"
            line = f"ask 9 a = {a + 9} a {sign} {abs(b)} b" if b else f"ask 9 a = {a + 9} a"
            told = desk.tell(line)
            if a % 4 == 0 and b % 6 == 0:
                self.assertEqual(told, f"road {a // 4} {-b // 6}")
            else:
                self.assert_scale(told, book, [9, 0], [a + 9, b], "rest")

    def test_the_road_is_plain(self):
        desk = desk_of("wares coin", "swap nothing = 2 coin", "swap nothing = 3 coin", "swap nothing = nothing")
        # Rounds are 3 of swap 0 for 2 of swap 1 turned about, and swap 2: by these the road is lowered.
        for number in range(1, 30):
            for line, end in ((f"ask nothing = {number} coin", number), (f"ask {number} coin = nothing", -number)):
                words = desk.tell(line).split(" ")
                way = [int(word) for word in words[1:]]
                self.assertEqual(words[0], "road")
                self.assertEqual(2 * way[0] + 3 * way[1], end)
                self.assertTrue(0 <= way[0] < 3)
                self.assertEqual(way[2], 0)

    def test_which_side_is_the_first(self):
        self.assert_told(
            desk_of("wares egg hen", "swap 12 egg = hen"), ("ask 12 egg = hen", "road 1"),
            ("ask hen = 12 egg", "road -1"), ("ask 36 egg = 3 hen", "road 3"), ("ask 5 hen = 60 egg", "road -5"),
        )

    def test_a_road_leads_there(self):
        chance = random.Random(1)
        seen = []
        for many, most in itertools.product((1, 3, 8), (3, 10 ** 10)):
            names = list("abcdefgh")[:many]
            swaps = [[2 * chance.randrange(-most, most + 1) for name in names] for swap in range(9)]
            desk = desk_of(" ".join(["wares"] + names), *[f"swap nothing = {written(names, swap)}" for swap in swaps])
            book = book_of(many, swaps)
            for again in range(4):
                one = [chance.randrange(-most, most + 1) for name in names]
                end = led(book, one, [chance.randrange(-4, 5) for swap in swaps])
                end[again % many] += again % 2
                told = desk.tell(f"ask {written(names, one)} = {written(names, end)}")
                seen.append(told.split(" ")[0])
                if again % 2:
                    self.assert_scale(told, book, one, end, "rest")
                else:
                    way = [int(word) for word in told.split(" ")[1:]]
                    self.assertEqual(told, " ".join(["road"] + [str(number) for number in way]))
                    self.assertEqual(led(book, one, way), end)
        self.assertEqual(sorted(set(seen)), ["rest", "road"])


class HomesAndTurns(Talk):
    def test_the_market(self):
        self.assert_told(
            market(), ("home 30 egg", "home 2 goat"), ("home - 2 hen", "home 3 hen - 4 goat"),
            ("home egg", "home 1 egg"), ("home - egg", "home 2 egg + 1 hen - 1 goat"),
            ("home 3 egg + hen - goat", "home nothing"), ("turn egg", "turn 0"), ("turn 12 egg - hen", "turn 1"),
            ("turn nothing", "turn 1"),
        )

    def test_behind_swap_drop_and_wares(self):
        desk = desk_of("wares egg hen")
        self.assert_told(
            desk, ("home 30 egg", "home 30 egg"), ("turn egg", "turn 0"), ("swap 12 egg = hen", "swap 0"),
            ("home 30 egg", "home 6 egg + 2 hen"), ("turn 6 egg", "turn 0"), ("swap 2 hen = nothing", "swap 1"),
            ("home 30 egg", "home 6 egg"), ("turn 6 egg", "turn 4"), ("turn egg", "turn 24"), ("turn hen", "turn 2"),
            ("drop 0", "drop 1"), ("home 30 egg", "home 30 egg"), ("turn 6 egg", "turn 0"), ("turn hen", "turn 2"),
            ("home 30 egg - hen", "home 30 egg + 1 hen"), ("drop 0", "drop 0"), ("turn hen", "turn 0"),
            ("swap nothing = 5 egg", "swap 0"), ("home - egg", "home 4 egg"), ("wares egg", "wares 1"),
            ("home - egg", "home - 1 egg"), ("turn egg", "turn 0"),
        )

    def test_turns(self):
        desk = desk_of("wares a b", "swap nothing = 4 a", "swap nothing = 6 b")
        for a, b in itertools.product(range(1, 13), repeat=2):
            least = next(k for k in range(1, 13) if a * k % 4 == 0 and b * k % 6 == 0)
            self.assert_told(desk, (f"turn {a} a + {b} b", f"turn {least}"), (f"turn - {a} a + {b} b", f"turn {least}"))
        desk = desk_of("wares a", "swap nothing = 999999999999 a")
        self.assert_told(desk, ("turn a", "turn 999999999999"), ("turn 999999999998 a", "turn 999999999999"))

    def test_how_baskets_are_written(self):
        desk = desk_of("wares a b c d e f g h")
        for signs in itertools.product((-1, 0, 1), repeat=4):
            numbers = [sign * (place + 1) for place, sign in enumerate(signs)]
            names = "bdfh"
            terms = [(number, name) for number, name in zip(numbers, names) if number]
            line = "home " + (" + ".join(f"{100 + number} {name} - 100 {name}" for number, name in terms) or "nothing")
            told = []
            for number, name in terms:
                sign = "- " if number < 0 else "+ " if told else ""
                told.append(f"{sign}{abs(number)} {name}")
            self.assert_told(desk, (line, " ".join(["home"] + (told or ["nothing"]))))

    def test_an_answer_of_home_is_a_side(self):
        chance = random.Random(2)
        for again in range(60):
            names = chance.sample(["egg", "hen", "goat", "home", "turn", "z"], chance.randrange(1, 7))
            desk = desk_of(" ".join(["wares"] + names))
            for swap in range(chance.randrange(6)):
                desk.tell(f"swap {chance.randrange(1, 9)} {chance.choice(names)} = "
                          f"{chance.randrange(1, 9)} {chance.choice(names)} - {chance.choice(names)}")
            side = (f"- {chance.randrange(1, 99)} {chance.choice(names)} "
                    f"+ {chance.randrange(1, 99)} {chance.choice(names)}")
            told = desk.tell(f"home {side}")
            self.assertEqual(desk.tell(told), told)
            self.assertEqual(desk.tell(f"ask {side} = {told[5:]}").split(" ")[0], "road")


class Order(Talk):
    def test_no_line_ahead_of_all(self):
        self.assert_told(
            Desk(), ("wares Egg +", NoLine), ("wares egg egg =", NoLine), ("wares a b c d e f g h i -", NoLine),
            ("home 0 egg", NoLine), ("drop 00", NoLine), ("ask goat", NoLine), ("swap goat = ", NoLine),
            ("wares  Egg", NoLine),
        )
        self.assert_told(
            market(), ("home 0 cow", NoLine), ("home cow +", NoLine), ("swap cow = 01 cow", NoLine),
            ("drop 099", NoLine), ("ask cow = cow = cow", NoLine), ("wares Egg +", NoLine),
        )
        self.assert_told(full(), ("swap cow = 0 egg", NoLine), ("swap egg = hen ", NoLine), ("swap egg hen", NoLine))

    def test_bad_names_with_or_without_a_book(self):
        for desk in (Desk(), market(), full()):
            self.assert_told(
                desk, ("wares Egg", BadNames), ("wares a a", BadNames), ("wares a b c d e f g h i", BadNames),
                ("wares a b c d e f g h a", BadNames), ("wares nothing nothing", BadNames),
            )

    def test_no_book_ahead_of_those_behind_it(self):
        self.assert_told(
            Desk(), ("home egg", NoBook), ("home nothing", NoBook), ("turn cow", NoBook), ("turn nothing", NoBook),
            ("ask egg = hen", NoBook), ("ask nothing = nothing", NoBook), ("swap egg = hen", NoBook),
            ("swap nothing = nothing", NoBook), ("drop 0", NoBook), ("drop 99", NoBook), ("home 3 4", NoBook),
        )

    def test_a_refused_wares_line_is_not_taken(self):
        self.assert_told(Desk(), ("wares Egg", BadNames), ("home egg", NoBook), ("wares", NoLine), ("drop 0", NoBook),
                         ("wares egg", "wares 1"), ("home egg", "home 1 egg"))

    def test_no_name_ahead_of_too_many(self):
        self.assert_told(
            full(), ("swap cow = egg", NoName), ("swap egg = cow", NoName), ("swap egg = hen + 3 nothing", NoName),
            ("swap egg = hen", TooMany), ("swap cow - cow = nothing", NoName),
        )

    def test_of_two_sides_either(self):
        self.assert_told(market(), ("ask cow = egg", NoName), ("ask egg = cow", NoName), ("swap cow = pig", NoName))


class Refused(Talk):
    LINES = (
        ("home 0 egg", NoLine), ("help", NoLine), ("", NoLine), ("wares", NoLine), ("swap egg = hen +", NoLine),
        ("wares hen egg egg", BadNames), ("wares Egg", BadNames), ("wares cow nothing", BadNames),
        ("wares a b c d e f g h i", BadNames), ("home cow", NoName), ("swap egg = cow", NoName),
        ("swap cow = egg", NoName), ("ask egg = cow", NoName), ("turn 3", NoName), ("drop 12", NoSwap),
        ("drop 99", NoSwap), ("drop 00", NoLine),
    )

    def answers(self, desk):
        return [desk.tell(line) for line in (
            "home 30 egg", "home hen", "turn egg", "turn hen", "ask 12 egg = hen", "ask egg = 4 egg",
            "ask nothing = nothing",
        )]

    def test_a_refused_line_changes_nothing(self):
        for make, more in (
            (lambda: desk_of("wares egg hen", "swap 12 egg = hen"), ()), (lambda: desk_of("wares egg hen"), ()),
            (full, (("swap egg = hen", TooMany), ("swap hen = hen", TooMany))),
        ):
            before = self.answers(make())
            for line, refusal in self.LINES + more:
                desk = make()
                self.assert_told(desk, (line, refusal))
                self.assertEqual(self.answers(desk), before)

    def test_numbers_of_swaps_behind_refused_lines(self):
        desk = desk_of("wares egg hen")
        for number in range(12):
            self.assert_told(desk, *self.LINES)
            self.assert_told(desk, ("swap egg = hen", f"swap {number}"))
        self.assert_told(
            desk, ("swap egg = hen", TooMany), ("swap egg = cow", NoName), ("drop 12", NoSwap), ("drop 0", "drop 11"),
            ("swap egg = hen", "swap 11"),
        )

    def test_a_desk_without_a_book(self):
        desk = Desk()
        for line, refusal in self.LINES:
            self.assertRaises(SwapError, desk.tell, line)
        self.assert_told(desk, ("home egg", NoBook), ("wares egg", "wares 1"), ("drop 0", NoSwap))

    def test_each_is_caught_by_its_own_class_alone(self):
        classes = (NoLine, BadNames, NoBook, NoName, NoSwap, TooMany)
        for make, line, refusal in (
            (Desk, "help", NoLine), (Desk, "wares 3", BadNames), (Desk, "home egg", NoBook),
            (market, "home cow", NoName), (market, "drop 2", NoSwap), (full, "swap egg = hen", TooMany),
        ):
            try:
                make().tell(line)
            except ValueError as told:
                self.assertIsInstance(told, SwapError)
                self.assertEqual([one for one in classes if isinstance(told, one)], [refusal])
            else:
                self.fail(line)


class Apart(Talk):
    def test_two_desks_keep_their_books_apart(self):
        one, other = Desk(), Desk()
        self.assert_told(one, ("wares egg hen", "wares 2"), ("swap 12 egg = hen", "swap 0"))
        self.assert_told(other, ("home egg", NoBook), ("wares hen egg", "wares 2"), ("home 12 egg", "home 12 egg"))
        self.assert_told(one, ("home 12 egg", "home 1 hen"))
        self.assert_told(other, ("swap 5 egg = nothing", "swap 0"), ("home 12 egg", "home 2 egg"), ("drop 0", "drop 0"))
        self.assert_told(one, ("home 12 egg", "home 1 hen"), ("drop 0", "drop 0"), ("drop 0", NoSwap))

    def test_asking_changes_nothing(self):
        desk = market()
        asked = ("ask 15 egg = goat", "home 30 egg", "turn hen", "home - 2 hen", "ask hen = goat", "turn 12 egg - hen")
        before = [desk.tell(line) for line in asked]
        for again in range(3):
            self.assertEqual([desk.tell(line) for line in reversed(asked)], before[::-1])


class ManyLines(Talk):
    WORDS = ("+", "-", "=", "egg", "hen", "goat", "home", "nothing", "1", "2", "12", "3", "03", "0", "cow", "", "11",
             "999999999999", "1000000000000", "x", "--", "egg", "hen", "egg", "hen", "egg", "hen")
    ORDERS = ("swap", "swap", "ask", "ask", "home", "turn", "drop")

    def follow(self, desk, model, line):
        refusal = model.refusal(line)
        with self.subTest(line):
            if refusal:
                self.assertRaises(refusal, desk.tell, line)
                return refusal
            told, answer = desk.tell(line), model.answer(line)
            if answer in ("line", "rest"):
                sides = [model.basket(side) for side in FORMS["ask"].fullmatch(line).groups()]
                self.assert_scale(told, model.book(), *sides, answer)
            else:
                self.assertEqual(told, answer)
            return told.split(" ")[0]

    def test_words_by_chance(self):
        chance = random.Random(3)
        seen = {}
        for again in range(80):
            desk, model = Desk(), Model()
            if again % 4:
                self.follow(desk, model, "wares egg hen goat home")
            for step in range(120):
                words = [chance.choice(self.WORDS) for word in range(chance.randrange(4))]
                order = chance.choice(tuple(FORMS) + ("help", ""))
                if order in ("swap", "ask") and chance.randrange(4):
                    words += ["="] + [chance.choice(self.WORDS) for word in range(chance.randrange(4))]
                told = self.follow(desk, model, " ".join([order] + words))
                seen[told] = seen.get(told, 0) + 1
        for kind in (NoLine, BadNames, NoBook, NoName, NoSwap, "wares", "home", "turn"):
            self.assertTrue(seen.get(kind), kind)

    def side(self, chance, names):
        if not chance.randrange(8):
            return "nothing"
        terms = []
        for term in range(chance.randrange(1, 5)):
            sign = chance.choice(("+ ", "- ")) if term else chance.choice(("", "", "- "))
            count = chance.choice(("", "", f"{chance.randrange(1, 7)} ", f"{chance.randrange(1, 10 ** 12)} ", "12 "))
            terms.append(sign + count + chance.choice(names))
        return " ".join(terms)

    def test_lines_by_chance(self):
        chance = random.Random(4)
        all_names = ["egg", "hen", "goat", "home", "wares", "z", "abcdefghijkl", "road", "cow"]
        seen = {}
        for again in range(60):
            desk, model = Desk(), Model()
            names = chance.sample(all_names, chance.randrange(1, 9))
            self.follow(desk, model, " ".join(["wares"] + names))
            for step in range(60):
                order = "wares" if step == 40 else chance.choice(self.ORDERS)
                known = names + all_names * (not chance.randrange(15))
                if order == "wares":
                    names = chance.sample(all_names, chance.randrange(1, 9))
                    line = " ".join(["wares"] + names)
                elif order == "drop":
                    line = f"drop {chance.randrange(14)}"
                elif order in ("swap", "ask"):
                    line = f"{order} {self.side(chance, known)} = {self.side(chance, known)}"
                else:
                    line = f"{order} {self.side(chance, known)}"
                told = self.follow(desk, model, line)
                seen[told] = seen.get(told, 0) + 1
        for kind in (NoName, NoSwap, "wares", "swap", "drop", "home", "turn", "road", "line", "rest"):
            self.assertTrue(seen.get(kind), kind)

    def test_up_to_twelve_swaps(self):
        chance = random.Random(5)
        seen = {}
        for many in range(1, 9):
            names = list("abcdefgh")[:many]
            desk, model = Desk(), Model()
            self.follow(desk, model, " ".join(["wares"] + names))
            for step in range(16):
                for line in (f"swap {self.side(chance, names)} = {self.side(chance, names)}",
                             f"home {self.side(chance, names)}", f"turn {self.side(chance, names)}",
                             f"ask {self.side(chance, names)} = {self.side(chance, names)}"):
                    told = self.follow(desk, model, line)
                    seen[told] = seen.get(told, 0) + 1
        self.assertEqual((seen["swap"], seen[TooMany]), (8 * 12, 8 * 4))
        for kind in ("home", "turn", "road", "line", "rest"):
            self.assertTrue(seen.get(kind), kind)


if __name__ == "__main__":
    unittest.main()
