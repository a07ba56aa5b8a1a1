"""Squares over a scaffold: their roots, and papers that show that a number is none."""

from compasshall.overs import norm, over
from compasshall.signs import size
from compasshall.sums import halves, is_nought, is_number, lifted, made, minus, plus, times
from compasshall.wholes import is_whole, whole_root


def root(roots, x):
    if len(roots) == 0:
        return root_of_fraction(x)
    parts = halves(x)
    if is_nought(parts[1]):
        return root_of_front(roots, parts[0])
    return root_of_both(roots, parts[0], parts[1], norm(roots, x))


def root_of_fraction(x):
    product = x[0][0] * x[1]
    if product < 0:
        return None
    whole = whole_root(product)
    if whole * whole != product:
        return None
    return made((whole,), x[1])


def root_of_front(roots, a):
    beneath = roots[:-1]
    numbers = both_ways(roots, a)
    told = root(beneath, numbers[0])
    if told is not None:
        return lifted(told, len(roots))
    told = root(beneath, numbers[1])
    if told is None:
        return None
    return times_last(over(beneath, told, (roots[-1], 1)))


def root_of_both(roots, a, b, product):
    beneath = roots[:-1]
    n = root(beneath, product)
    if n is None:
        return None
    for middle in middles(a, n):
        u = root(beneath, middle)
        if u is not None:
            # Both middles multiplied are b * b * d / 4, and b is not nought: so neither is u.
            behind = times_last(over(beneath, b, plus(u, u)))
            return size(roots, plus(lifted(u, len(roots)), behind))
    return None


def both_ways(roots, a):
    return [a, times(roots[:-1], a, (roots[-1], 1))]


def middles(a, n):
    return [half_of(plus(a, n)), half_of(minus(a, n))]


def half_of(x):
    return made(x[0], 2 * x[1])


def times_last(b):
    return ((0,) * len(b[0]) + b[0], b[1])


def paper(roots, x):
    if len(roots) == 0:
        return paper_of_fraction(x)
    parts = halves(x)
    if is_nought(parts[1]):
        return paper_of_two(roots[:-1], ("both",), both_ways(roots, parts[0]))
    product = norm(roots, x)
    n = root(roots[:-1], product)
    if n is None:
        return ("norm", paper(roots[:-1], product))
    return paper_of_two(roots[:-1], ("halves", n), middles(parts[0], n))


def paper_of_fraction(x):
    if x[0][0] < 0:
        return ("below",)
    if root_of_fraction(x) is not None:
        return None
    return ("between", whole_root(x[0][0] * x[1]))


def paper_of_two(roots, ahead, numbers):
    one = paper(roots, numbers[0])
    if one is None:
        return None
    other = paper(roots, numbers[1])
    if other is None:
        return None
    return ahead + (one, other)


def holds(roots, x, thing):
    # Any thing may stand ahead, and only a text is compared with the words.
    if not isinstance(thing, tuple) or len(thing) == 0 or not isinstance(thing[0], str):
        return False
    if len(roots) == 0:
        return holds_of_fraction(x, thing)
    parts = halves(x)
    if is_nought(parts[1]):
        return thing[0] == "both" and holds_of_two(roots[:-1], both_ways(roots, parts[0]), thing[1:])
    product = norm(roots, x)
    if thing[0] == "norm":
        return len(thing) == 2 and holds(roots[:-1], product, thing[1])
    if thing[0] != "halves" or len(thing) != 4 or not is_root(roots[:-1], product, thing[1]):
        return False
    return holds_of_two(roots[:-1], middles(parts[0], thing[1]), thing[2:])


def holds_of_fraction(x, thing):
    if thing[0] == "below":
        return len(thing) == 1 and x[0][0] < 0
    if thing[0] != "between" or len(thing) != 2:
        return False
    w = thing[1]
    if not is_whole(w) or w < 0:
        return False
    return w * w < x[0][0] * x[1] < (w + 1) * (w + 1)


def holds_of_two(roots, numbers, things):
    if len(things) != 2:
        return False
    return holds(roots, numbers[0], things[0]) and holds(roots, numbers[1], things[1])


def is_root(roots, square, thing):
    return is_number(thing, len(roots)) and times(roots, thing, thing) == square
