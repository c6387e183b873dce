"""Deeds: tuples (name, looks, changes) of whole numbers, and which of them clash."""

from passby.errors import NoDeed


def is_whole(thing):
    # True and False are ints to Python, but no whole numbers here.
    return isinstance(thing, int) and not isinstance(thing, bool)


def lies_below(thing, bound):
    return is_whole(thing) and 0 <= thing < bound


def deed(name, looks, changes=0):
    # The refused thing is not shown: it may be of any kind and any length.
    if not lies_below(name, 10 ** 60):
        raise NoDeed("the name is no whole number from 0 to below 10 ** 60")
    if not lies_below(looks, 2 ** 60):
        raise NoDeed("the looks are no whole number from 0 to below 2 ** 60")
    if not lies_below(changes, 2 ** 60):
        raise NoDeed("the changes are no whole number from 0 to below 2 ** 60")
    return (name, looks, changes)


def disturbs(one, other):
    return (one[2] & (other[1] | other[2])) != 0


def clash(one, other):
    return disturbs(one, other) or disturbs(other, one)
