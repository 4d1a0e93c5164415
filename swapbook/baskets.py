"""Reckoning with baskets, roads and other lists of whole numbers."""

from swapbook.errors import NotAlike


def refuse_unlike(one, other):
    if len(one) != len(other):
        raise NotAlike("the lists have unlike lengths")


def plus(one, other):
    refuse_unlike(one, other)
    return [a + b for a, b in zip(one, other)]


def less(one, other):
    refuse_unlike(one, other)
    return [a - b for a, b in zip(one, other)]


def times(some, many):
    return [number * many for number in some]


def weighed(one, other):
    refuse_unlike(one, other)
    return sum([a * b for a, b in zip(one, other)])
