"""Claims about drawings: each has a number that shows whether it is true."""

from compasshall.drawings import found
from compasshall.errors import NoClaim
from compasshall.meets import crossed, pair_plus
from compasshall.places import beyond_line, beyond_ring, far, sum_of_products
from compasshall.signs import sign
from compasshall.steps import LINE_OR_RING, POINT, are_names, bare
from compasshall.sums import against, minus, times


# The number of each claim, of the places of its names, which have their kinds ahead.


def number_of_same(roots, given):
    return span(roots, given[0], given[1])


def number_of_on(roots, given):
    if given[1][0] == "line":
        return beyond_line(roots, bare(given[1]), bare(given[0]))
    return beyond_ring(roots, bare(given[1]), bare(given[0]))


def number_of_even(roots, given):
    return minus(span(roots, given[0], given[1]), span(roots, given[2], given[3]))


def number_of_square(roots, given):
    return sum_of_products(roots, way(given[0], given[1]), way(given[2], given[3]))


def number_of_middle(roots, given):
    both = pair_plus(way(given[1], given[0]), way(given[2], given[0]))
    return sum_of_products(roots, both, both)


def number_of_row(roots, given):
    one = way(given[0], given[1])
    other = way(given[0], given[2])
    return crossed(roots, one[0], one[1], other[0], other[1])


def number_of_corners(roots, given):
    one = corner(roots, given[:3])
    other = corner(roots, given[3:])
    return minus(times(roots, one[0], other[1]), times(roots, other[0], one[1]))


def corner(roots, given):
    one = way(given[1], given[0])
    other = way(given[1], given[2])
    along = sum_of_products(roots, one, other)
    squared = times(roots, along, along)
    # A square has lost the sign that tells a sharp corner from a blunt one.
    if sign(roots, along) < 0:
        squared = against(squared)
    return (squared, times(roots, span(roots, given[0], given[1]), span(roots, given[2], given[1])))


def way(one, other):
    return (minus(other[1], one[1]), minus(other[2], one[2]))


def span(roots, one, other):
    return far(roots, bare(one), bare(other))


NAMES = {
    "same": 2, "on": 2, "even": 4, "longer": 4, "square": 4, "middle": 3, "left": 3, "row": 3, "corners": 6,
}

NUMBERS = {
    "same": number_of_same, "on": number_of_on, "even": number_of_even, "longer": number_of_even,
    "square": number_of_square, "middle": number_of_middle, "left": number_of_row, "row": number_of_row,
    "corners": number_of_corners,
}


class Claim:
    def __init__(self, words):
        self.words = words

    def text(self):
        return " ".join(self.words)

    def measured(self, drawing):
        number_of = NUMBERS[self.words[0]]
        return number_of(drawing.roots(), found(drawing, self.words[1:], wanted_by(self.words)))

    def asked(self, drawing):
        number = self.measured(drawing)
        told = sign(drawing.roots(), number)
        return (self.is_true(told), told, number)


class AtNought(Claim):
    def is_true(self, told):
        return told == 0


class AboveNought(Claim):
    def is_true(self, told):
        return told > 0


def wanted_by(words):
    if words[0] == "on":
        return [POINT, LINE_OR_RING]
    return [POINT for name in words[1:]]


def claim_of(thing):
    if not isinstance(thing, str):
        raise NoClaim("a claim is a text")
    words = thing.split(" ")
    if words[0] not in NAMES or len(words) - 1 != NAMES[words[0]] or not are_names(words[1:]):
        raise NoClaim(f"this is no claim: {thing!r}")
    if words[0] in ("longer", "left"):
        return AboveNought(words)
    return AtNought(words)
