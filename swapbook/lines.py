"""The lines of a desk: which form they have, what they say of wares, and how baskets are written in answers."""

from swapbook.books import MOST_WARES
from swapbook.errors import BadNames, NoLine, NoName

LETTERS = "abcdefghijklmnopqrstuvwxyz"
FIGURES = "0123456789"
MARKS = ("+", "-", "=")
LONGEST_NAME = 12
LONGEST_COUNT = 12
LONGEST_NUMBER = 2
NOTHING = "nothing"


def made_of(word, signs):
    return all([sign in signs for sign in word])


def is_name(word):
    return made_of(word, LETTERS) and len(word) <= LONGEST_NAME and word != NOTHING


def is_count(word):
    return made_of(word, FIGURES) and len(word) <= LONGEST_COUNT and word[0] != "0"


def is_number(word):
    return word == "0" or (is_count(word) and len(word) <= LONGEST_NUMBER)


def names_of(words):
    """The words as they stand: which of them are no names is asked behind the form."""
    if len(words) == 0 or any([word in MARKS for word in words]):
        raise NoLine("there stand no words for names")
    return words


def number_of(words):
    if len(words) != 1 or not is_number(words[0]):
        raise NoLine("there stands no number of a swap")
    return int(words[0])


def term_of(words):
    """Of + or - and the words behind it: how many, below nought behind -, and the word for the name."""
    sign = -1 if words[0] == "-" else 1
    if len(words) == 2:
        return sign, words[1]
    if len(words) == 3 and is_count(words[1]):
        return sign * int(words[1]), words[2]
    raise NoLine("a term is neither a name nor a count and a name")


def side_of(words):
    """The terms of a side, each a tuple as term_of tells."""
    if "=" in words:
        raise NoLine("there stands = within a side")
    if words == [NOTHING]:
        return []
    # With a sign ahead of the first term too, each sign begins a term.
    signed = words if words[:1] == ["-"] else ["+"] + words
    terms = []
    for word in signed:
        if word in ("+", "-"):
            terms.append([word])
        else:
            terms[-1].append(word)
    return [term_of(term) for term in terms]


def sides_of(words):
    if "=" not in words:
        raise NoLine("there stands no = between two sides")
    place = words.index("=")
    return [side_of(words[:place]), side_of(words[place + 1:])]


def read_line(line):
    """A tuple: the first word, and what stands behind it: names, a number, or a list of sides."""
    words = line.split(" ")
    if "" in words:
        raise NoLine("a blank stands where none is due")
    order = words[0]
    if order == "wares":
        return order, names_of(words[1:])
    if order == "drop":
        return order, number_of(words[1:])
    if order in ("swap", "ask"):
        return order, sides_of(words[1:])
    if order in ("home", "turn"):
        return order, [side_of(words[1:])]
    raise NoLine("the first word begins no line")


def refuse_bad_names(names):
    if not all([is_name(name) for name in names]):
        raise BadNames("a word is no name")
    if len(set(names)) != len(names):
        raise BadNames("a name comes twice")
    if len(names) > MOST_WARES:
        raise BadNames("there are more than eight names")


def basket_of(names, side):
    basket = [0] * len(names)
    for many, name in side:
        if name not in names:
            raise NoName("a word is the name of no ware")
        place = names.index(name)
        basket[place] = basket[place] + many
    return basket


def numbers_written(word, numbers):
    return " ".join([word] + [str(number) for number in numbers])


def basket_written(names, basket):
    words = []
    for name, number in zip(names, basket):
        if number == 0:
            continue
        if number < 0:
            words.append("-")
        elif len(words) > 0:
            words.append("+")
        words.extend([str(abs(number)), name])
    return " ".join(words) if len(words) > 0 else NOTHING
