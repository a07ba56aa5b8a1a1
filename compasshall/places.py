"""Points, lines and rings, and how they lie."""

from compasshall.errors import NoLine, NoRing
from compasshall.overs import over
from compasshall.signs import sign, size
from compasshall.sums import is_nought, minus, plus, times


def line_of(roots, one, other):
    a = minus(one[1], other[1])
    b = minus(other[0], one[0])
    if is_nought(a) and is_nought(b):
        raise NoLine("a line goes through two points that are not the same")
    return line_across(roots, a, b, sum_of_products(roots, (a, b), one))


def line_across(roots, a, b, c):
    # A size is above nought, so the line keeps its direction and its sides.
    scale = size(roots, b if is_nought(a) else a)
    return (over(roots, a, scale), over(roots, b, scale), over(roots, c, scale))


# Of a line its a and b, and of a ring its u and v, stand ahead: so both are handed in here as points are.
def sum_of_products(roots, one, other):
    return plus(times(roots, one[0], other[0]), times(roots, one[1], other[1]))


def ring_about(roots, point, s):
    if sign(roots, s) <= 0:
        raise NoRing("the square of a ring's span is above nought")
    return (point[0], point[1], s)


def ring_through(roots, point, other):
    return ring_about(roots, point, far(roots, point, other))


def far(roots, one, other):
    way = (minus(other[0], one[0]), minus(other[1], one[1]))
    return sum_of_products(roots, way, way)


def beyond_line(roots, line, point):
    return minus(sum_of_products(roots, line, point), line[2])


def beyond_ring(roots, ring, point):
    return minus(far(roots, ring, point), ring[2])


def side_of_line(roots, line, point):
    return sign(roots, beyond_line(roots, line, point))


def side_of_ring(roots, ring, point):
    return sign(roots, beyond_ring(roots, ring, point))
