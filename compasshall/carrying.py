"""Numbers carried from one scaffold to another."""

from compasshall.errors import NoCarry
from compasshall.squares import root
from compasshall.sums import halves, lifted, plus, times


def carried(old, new, x):
    return put_in(new, carried_roots(old, new), x)


def carried_roots(old, new):
    told = []
    # Root by root: what stands under one is over the roots ahead of it, which are carried by then.
    for k in range(len(old)):
        one = root(new, put_in(new, told, (old[k], 1)))
        if one is None:
            raise NoCarry(k)
        told.append(one)
    return told


def put_in(new, told, x):
    if len(told) == 0:
        return lifted(x, len(new))
    parts = halves(x)
    front = put_in(new, told[:-1], parts[0])
    behind = put_in(new, told[:-1], parts[1])
    return plus(front, times(new, behind, told[-1]))
