"""Meets of lines and rings."""

from compasshall.errors import NoMeet
from compasshall.overs import over
from compasshall.places import line_across, sum_of_products
from compasshall.scaffolds import grown
from compasshall.signs import sign
from compasshall.sums import against, is_nought, lifted, minus, plus, times


def meet_of_lines(roots, line, other):
    across = crossed(roots, line[0], line[1], other[0], other[1])
    if is_nought(across):
        raise NoMeet(across)
    x = crossed(roots, line[2], line[1], other[2], other[1])
    y = crossed(roots, line[0], line[2], other[0], other[2])
    return (over(roots, x, across), over(roots, y, across))


def crossed(roots, a, b, c, d):
    return minus(times(roots, a, d), times(roots, c, b))


def meets_of_line(roots, line, ring):
    n = sum_of_products(roots, line, line)
    h = minus(line[2], sum_of_products(roots, line, ring))
    w = minus(times(roots, ring[2], n), times(roots, h, h))
    if sign(roots, w) < 0:
        raise NoMeet(w)
    told = grown(roots, w)
    aside = stretched(roots, (line[0], line[1]), over(roots, h, n))
    foot = lifted_pair(told[0], pair_plus((ring[0], ring[1]), aside))
    if is_nought(w):
        return (told[0], [foot])
    way = lifted_pair(told[0], (line[1], against(line[0])))
    step = stretched(told[0], way, over(told[0], told[1], lifted(n, len(told[0]))))
    back = (against(step[0]), against(step[1]))
    return (told[0], [pair_plus(foot, back), pair_plus(foot, step)])


def stretched(roots, pair, x):
    return (times(roots, pair[0], x), times(roots, pair[1], x))


def pair_plus(one, other):
    return (plus(one[0], other[0]), plus(one[1], other[1]))


def lifted_pair(roots, pair):
    return (lifted(pair[0], len(roots)), lifted(pair[1], len(roots)))


def meets_of_rings(roots, ring, other):
    e = minus(other[0], ring[0])
    f = minus(other[1], ring[1])
    if is_nought(e) and is_nought(f):
        raise NoMeet(e)
    c = minus(rest_of(roots, ring), rest_of(roots, other))
    return meets_of_line(roots, line_across(roots, plus(e, e), plus(f, f), c), ring)


def rest_of(roots, ring):
    return minus(ring[2], sum_of_products(roots, ring, ring))
