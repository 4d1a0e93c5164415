"""How many times a basket is taken until it is worth nothing."""

from swapbook.baskets import times
from swapbook.books import refuse_bad_basket
from swapbook.homes import way_to
from swapbook.scales import shown


def turn_of(book, basket):
    refuse_bad_basket(book, basket)
    told = shown(book, basket)
    many = told[0]
    way = None if many == 0 else way_to(book, times(basket, many))
    return many, way, told[1]
