"""Bent makers: the first list of which a maker says another thing than is due [30]."""

from ownchain.own import by_runner, say_due
from ownchain.sheets import functions


def parted(maker, lists, breaths):
    # Asked ahead of the lists: a maker that is no sheet is refused where there are none, too.
    functions(maker)
    for number, numbers in enumerate(lists):
        if by_runner(maker, numbers, breaths) != say_due(numbers):
            return number
    return None
