"""Scaffolds looked at and grown."""

from compasshall.errors import Below, NoRoom
from compasshall.signs import sign
from compasshall.squares import root
from compasshall.wholes import are_wholes

MOST_ROOTS = 3


def is_scaffold(thing):
    if not isinstance(thing, tuple) or len(thing) > MOST_ROOTS:
        return False
    # Root by root: what is told of a number holds only over a scaffold, so the roots ahead come first.
    for k in range(len(thing)):
        if not is_next_root(thing[:k], thing[k]):
            return False
    return True


def is_next_root(roots, thing):
    if not are_wholes(thing, 1 << len(roots)):
        return False
    under = (thing, 1)
    return sign(roots, under) > 0 and root(roots, under) is None


def grown(roots, x):
    if sign(roots, x) < 0:
        raise Below("a number below nought has no root")
    told = root(roots, x)
    if told is not None:
        return (roots, told)
    if len(roots) == MOST_ROOTS:
        raise NoRoom("there are three roots already")
    under = tuple([top * x[1] for top in x[0]])
    front = (0,) * len(under)
    last = (1,) + (0,) * (len(under) - 1)
    return (roots + (under,), (front + last, x[1]))
