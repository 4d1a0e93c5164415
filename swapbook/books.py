"""Books of swaps, and where their roads lead."""

from swapbook.baskets import plus, times
from swapbook.errors import BadBasket, BadRoad, BadSwap, BadWares, TooMany

MOST_WARES = 8
MOST_SWAPS = 12


class Book:
    def __init__(self, many, swaps):
        self.many = many
        # Whoever handed the swaps in may change their lists later.
        self.swaps = [list(swap) for swap in swaps]


def book_of(many, swaps):
    if many < 1 or many > MOST_WARES:
        raise BadWares("the number of wares is not from 1 to 8")
    if len(swaps) > MOST_SWAPS:
        raise TooMany("there are more than 12 swaps")
    for place, swap in enumerate(swaps):
        if len(swap) != many:
            raise BadSwap(place)
    return Book(many, swaps)


def refuse_bad_basket(book, basket):
    if len(basket) != book.many:
        raise BadBasket("the basket has not one number for each ware")


def refuse_bad_road(book, road):
    if len(road) != len(book.swaps):
        raise BadRoad("the road has not one number for each swap")


def led(book, basket, road):
    refuse_bad_basket(book, basket)
    refuse_bad_road(book, road)
    # A copy, since a book without swaps would else hand the asker's own list back.
    reached = list(basket)
    for swap, many in zip(book.swaps, road):
        reached = plus(reached, times(swap, many))
    return reached
