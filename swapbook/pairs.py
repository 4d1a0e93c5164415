"""Two books of the same wares: joined, met, and whether the one lies within the other."""

from swapbook.books import Book, book_of
from swapbook.errors import OtherWares
from swapbook.scales import shown
from swapbook.spans import climbed, padded, tails


def refuse_other_wares(one, other):
    if one.many != other.many:
        raise OtherWares("the books have unlike numbers of wares")


def joined(one, other):
    refuse_other_wares(one, other)
    return book_of(one.many, one.swaps + other.swaps)


def met(one, other):
    refuse_other_wares(one, other)
    # Behind each row stands what the first book alone has part in it. Where only noughts stand in front, the other
    # book has undone just that: so it is worth nothing by both.
    doubled = [swap + swap for swap in one.swaps]
    steps = climbed(doubled + padded(other.swaps, other.many))
    return Book(one.many, tails(steps, one.many))


def within(one, other):
    refuse_other_wares(one, other)
    # What is worth nothing is a sum of swaps: where each swap is so by the other book, all of it is.
    for place, swap in enumerate(one.swaps):
        scale = shown(other, swap)[1]
        if scale is not None:
            return place, scale
    return None
