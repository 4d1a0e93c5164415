"""Stairs: the one list of steps that stands for all sums of some lists."""

from swapbook.baskets import refuse_unlike
from swapbook.spans import climbed, head_of, traced


def stairs_of(rows):
    for row in rows:
        refuse_unlike(rows[0], row)
    return climbed(rows)


class Stairs:
    def __init__(self, steps, heads, roads):
        self.steps = steps
        self.heads = heads
        self.roads = roads


def stairs(book):
    # Rows whose head lies behind the wares are rounds: they lead nowhere, so they are no steps.
    rows = [row for row in traced(book.swaps) if head_of(row) < book.many]
    steps = [row[:book.many] for row in rows]
    heads = [head_of(row) for row in rows]
    roads = [row[book.many:] for row in rows]
    return Stairs(steps, heads, roads)
