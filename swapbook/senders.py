"""Senders: what the baskets of one book come to in another one."""

from swapbook.baskets import plus, times
from swapbook.books import Book, refuse_bad_basket
from swapbook.errors import BadBaskets, NotKept, OtherBook
from swapbook.scales import shown
from swapbook.spans import climbed, counted, marked, padded, tails


def refuse_bad_baskets(first, second, baskets):
    if len(baskets) != first.many:
        raise BadBaskets("there is not one basket for each ware of the first book")
    for basket in baskets:
        if len(basket) != second.many:
            raise BadBaskets("a basket has not one number for each ware of the second book")


def refuse_other_book(one, other):
    if one.many != other.many or one.swaps != other.swaps:
        raise OtherBook("the one sender ends at another book than that where the other begins")


class Sender:
    def __init__(self, first, second, baskets):
        refuse_bad_baskets(first, second, baskets)
        self.first = first
        self.second = second
        # Whoever handed the baskets in may change their lists later.
        self.baskets = [list(basket) for basket in baskets]
        for place, swap in enumerate(first.swaps):
            scale = shown(second, self.sent(swap))[1]
            if scale is not None:
                raise NotKept(place, scale)

    def sent(self, basket):
        refuse_bad_basket(self.first, basket)
        reached = [0] * self.second.many
        for image, many in zip(self.baskets, basket):
            reached = plus(reached, times(image, many))
        return reached

    def climb(self):
        """The stairs of the baskets and the second book's swaps, behind each step what is sent to its worth."""
        # The swaps have noughts behind them: it takes no ware of the first book to come to what is worth nothing.
        return climbed(marked(self.baskets) + padded(self.second.swaps, self.first.many))

    def back(self, basket):
        refuse_bad_basket(self.second, basket)
        return counted(self.climb(), basket, self.first.many)

    def bar(self, basket):
        refuse_bad_basket(self.second, basket)
        # Were the sender's baskets swaps too, all that is sent would be worth nothing: so a scale that is fair then and
        # does not level the basket shows that nothing is sent there.
        wide = Book(self.second.many, self.second.swaps + self.baskets)
        return shown(wide, basket)[1]

    def lost(self):
        return Book(self.first.many, tails(self.climb(), self.second.many))

    def behind(self, other):
        refuse_other_book(other.second, self.first)
        return Sender(other.first, self.second, [self.sent(basket) for basket in other.baskets])
