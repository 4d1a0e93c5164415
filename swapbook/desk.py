"""The desk: it takes lines, keeps a book by them, and answers each with a line."""

from swapbook.baskets import less
from swapbook.books import book_of
from swapbook.errors import NoBook, NoSwap
from swapbook.homes import home
from swapbook.lines import basket_of, basket_written, numbers_written, read_line, refuse_bad_names
from swapbook.rounds import plain_road
from swapbook.scales import Rest, parting
from swapbook.turning import turn_of


def asked(book, one, other):
    way = plain_road(book, one, other)
    if way is not None:
        return numbers_written("road", way)
    scale = parting(book, one, other)
    if isinstance(scale, Rest):
        return numbers_written("rest", [scale.rest] + scale.weights)
    return numbers_written("line", scale.weights)


class Desk:
    def __init__(self):
        self.names = []
        self.book = None

    def tell(self, line):
        told = read_line(line)
        order = told[0]
        if order == "wares":
            return self.begin(told[1])
        if self.book is None:
            raise NoBook("no wares line was taken yet")
        if order == "drop":
            return self.drop(told[1])
        return self.answer(order, [basket_of(self.names, side) for side in told[1]])

    def begin(self, names):
        refuse_bad_names(names)
        self.names = names
        self.book = book_of(len(names), [])
        return numbers_written("wares", [len(names)])

    def drop(self, number):
        swaps = self.book.swaps
        if number >= len(swaps):
            raise NoSwap("no swap has this number")
        self.book = book_of(self.book.many, swaps[:number] + swaps[number + 1:])
        return numbers_written("drop", [len(self.book.swaps)])

    def answer(self, order, sides):
        if order == "swap":
            return self.put(less(sides[1], sides[0]))
        if order == "ask":
            return asked(self.book, sides[0], sides[1])
        if order == "home":
            return "home " + basket_written(self.names, home(self.book, sides[0]))
        return numbers_written("turn", [turn_of(self.book, sides[0])[0]])

    def put(self, swap):
        # A thirteenth swap is refused while the book is made, so the old book stays.
        self.book = book_of(self.book.many, self.book.swaps + [swap])
        return numbers_written("swap", [len(self.book.swaps) - 1])
