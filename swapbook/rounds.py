"""Rounds, the roads that lead each basket to itself, and the one plain road among all that lead alike."""

from swapbook.baskets import less
from swapbook.books import refuse_bad_basket, refuse_bad_road
from swapbook.homes import way_to
from swapbook.spans import lowered, tails, traced


def rounds(book):
    # Rows with only noughts in front lead nowhere: the counts behind are the stairs of all roads that do so.
    return tails(traced(book.swaps), book.many)


def plain(book, road):
    refuse_bad_road(book, road)
    return lowered(road, rounds(book))


def plain_road(book, one, other):
    refuse_bad_basket(book, one)
    refuse_bad_basket(book, other)
    way = way_to(book, less(other, one))
    return None if way is None else plain(book, way)
