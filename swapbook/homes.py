"""The home of each basket, the roads between baskets, and all homes of a book."""

from swapbook.baskets import less
from swapbook.books import refuse_bad_basket
from swapbook.errors import Endless, TooGreat
from swapbook.spans import counted, lowered, traced
from swapbook.stairs import stairs

MOST_HOMES = 200


def home(book, basket):
    refuse_bad_basket(book, basket)
    return lowered(basket, stairs(book).steps)


def way_to(book, basket):
    """A road from nothing to the basket, or None where there is none."""
    return counted(traced(book.swaps), basket, len(book.swaps))


def road(book, one, other):
    refuse_bad_basket(book, one)
    refuse_bad_basket(book, other)
    return way_to(book, less(other, one))


def head_numbers(book):
    flight = stairs(book)
    return [step[head] for step, head in zip(flight.steps, flight.heads)]


def product(numbers):
    many = 1
    for number in numbers:
        many = many * number
    return many


def many_homes(book):
    numbers = head_numbers(book)
    return product(numbers) if len(numbers) == book.many else None


def all_below(bounds):
    """All lists with a number of 0 or more below the bound at each place, lesser ones first."""
    lists = [[]]
    for bound in bounds:
        longer = []
        for front in lists:
            for number in range(bound):
                longer.append(front + [number])
        lists = longer
    return lists


def homes(book):
    many = many_homes(book)
    if many is None:
        raise Endless("there is no end of homes")
    if many > MOST_HOMES:
        raise TooGreat("there are more than 200 homes")
    return all_below(head_numbers(book))
