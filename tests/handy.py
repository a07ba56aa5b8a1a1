"""What several tests need: scaffolds, numbers over them, and a second way to reckon with them."""

import decimal
import functools
import math
from fractions import Fraction

NONE = ()
ONE_ROOT = [((2,),), ((3,),), ((12,),), ((10 ** 19 + 51,),)]
TWO_ROOTS = [
    ((2,), (0, 3)), ((2,), (3, 0)), ((2,), (2, 1)), ((2,), (10, -7)), ((5,), (10, -2)), ((7,), (-5, 2)),
]
THREE_ROOTS = [
    ((2,), (3, 0), (5, 0, 0, 0)), ((2,), (2, 1), (2, 0, 1, 0)), ((2,), (0, 3), (5, 1, 1, 0)),
    ((3,), (0, 1), (0, 0, 1, 0)), ((2,), (3, 0), (-9, 0, 4, 2)),
]
ALL = [NONE] + ONE_ROOT + TWO_ROOTS + THREE_ROOTS
WITH_ROOTS = ONE_ROOT + TWO_ROOTS + THREE_ROOTS

GREAT = 10 ** 20
FIGURES = 1500

# Rows of drawings without roots, with one root, with two and with three, each put in by another kind of row.
PLAIN = [
    "point a 0 0", "point b 6 0", "point c 0 4", "point d 3/2 -7/3", "line ab a b", "line cd c d", "meet e ab cd",
    "ring r a by 25", "line up c e", "point f -3 4", "line cf c f", "meet g cf r first", "meet h cf r second",
    "ring s b g", "ring t b by 25", "meet i r t first", "meet j r t second", "line ij j i",
]
SIXTH = [
    "point a 0 0", "point b 1 0", "ring r a b", "ring s b a", "meet c r s first", "meet d r s second", "line ab a b",
    "line cd d c", "meet e ab cd", "ring t c a", "meet f t r first", "line bc b c", "point g 2 -1/3",
]
FIFTH = [
    "point o 0 0", "point t 0 1", "point m -1/2 0", "ring r o t", "ring s m t", "line x m o", "meet q x s second",
    "ring k t q", "meet a k r first", "meet b k r second", "ring ka a t", "meet c ka r first", "ring kb b t",
    "meet d kb r second", "line ab a b", "line cd c d", "line tm t m",
]
HALVED = [
    "point o 0 0", "point a 1 0", "point c 1 1", "ring r o a", "line oc o c", "meet d oc r second", "ring ra a o",
    "ring rd d o", "meet e ra rd first", "meet f ra rd second", "line oe e f", "meet g oe r first",
    "meet h oe r second", "ring rg g o", "meet i ra rg first", "line oi o i", "meet j oi r second",
]
MIXED = [
    "point a 0 0", "point b 1 0", "point c 1/2 7/3", "point k 2 5", "ring r a b", "ring s b a", "meet d r s first",
    "ring t c by 4", "line ck c k", "meet e ck t second", "line bk b k", "ring u d by 2", "meet f bk u first",
    "line ad a d", "meet h ad ck", "ring v h b",
]
DRAWINGS = [PLAIN, SIXTH, FIFTH, HALVED, MIXED]


class Wheel:
    """Numbers that look mixed and are the same in each run."""

    def __init__(self, seed):
        self.state = seed

    def below(self, bound):
        result = 0
        for _ in range(bound.bit_length() // 32 + 1):
            self.state = (self.state * 6364136223846793005 + 1442695040888963407) % 2 ** 64
            result = result * 2 ** 32 + (self.state >> 32)
        return result % bound

    def between(self, low, high):
        return low + self.below(high - low + 1)

    def chosen(self, things):
        return things[self.below(len(things))]

    def number(self, roots, greatest=9, bottom=6):
        tops = [self.between(-greatest, greatest) for _ in range(2 ** len(roots))]
        return lowest(tops, self.between(1, bottom))


def numbers_over(roots, seed, many, greatest=9, bottom=6):
    wheel = Wheel(seed)
    return [wheel.number(roots, greatest, bottom) for _ in range(many)]


def edges_over(roots):
    """Nought, one, less than one, each root alone, and numbers of twenty figures."""
    places = 2 ** len(roots)
    told = [lowest([0] * places, 1), lowest([1] + [0] * (places - 1), 1), lowest([-3] + [0] * (places - 1), 4)]
    for k in range(len(roots)):
        told.append(lowest([1 if i == 2 ** k else 0 for i in range(places)], 1))
    told.append(lowest([-1] * places, 2))
    told.extend(numbers_over(roots, 20, 2, GREAT, GREAT))
    return told


def lowest(tops, bottom):
    shared = math.gcd(bottom, *tops)
    return (tuple(top // shared for top in tops), bottom // shared)


def whole(roots, n):
    return ((n,) + (0,) * (2 ** len(roots) - 1), 1)


def fraction(roots, top, bottom):
    return lowest([top] + [0] * (2 ** len(roots) - 1), bottom)


def last_root(roots):
    half = 2 ** (len(roots) - 1)
    return ((0,) * half + (1,) + (0,) * (half - 1), 1)


# The second way: a number as a dict, from the bits of the roots in a product to the fraction before it.


def parted(x):
    return {i: Fraction(top, x[1]) for i, top in enumerate(x[0]) if top != 0}


def joined(parts, many):
    bottom = math.lcm(*[part.denominator for part in parts.values()])
    tops = [0] * 2 ** many
    for i, part in parts.items():
        tops[i] = int(part * bottom)
    return lowest(tops, bottom)


def parts_plus(one, other):
    total = dict(one)
    for i, part in other.items():
        total[i] = total.get(i, Fraction(0)) + part
    return {i: part for i, part in total.items() if part != 0}


def parts_times(roots, one, other):
    total = {}
    for i, first in one.items():
        for j, second in other.items():
            product = {i ^ j: first * second}
            for k in range(len(roots) - 1, -1, -1):
                if (i & j) >> k & 1:
                    product = parts_times(roots, product, parted((roots[k], 1)))
            total = parts_plus(total, product)
    return total


def sum_of(x, y):
    return joined(parts_plus(parted(x), parted(y)), (len(x[0]) - 1).bit_length())


def less(x, y):
    return sum_of(x, (tuple(-top for top in y[0]), y[1]))


def product_of(roots, x, y):
    return joined(parts_times(roots, parted(x), parted(y)), len(roots))


def value(roots, x):
    """So many figures of the number that its sign and its floors are beyond doubt (where it is no fraction)."""
    with decimal.localcontext() as context:
        context.prec = FIGURES
        return value_of_tops(spans_of(roots), x[0]) / decimal.Decimal(x[1])


@functools.cache
def spans_of(roots):
    if len(roots) == 0:
        return ()
    spans = spans_of(roots[:-1])
    return spans + (value_of_tops(spans, roots[-1]).sqrt(),)


def value_of_tops(spans, tops):
    total = decimal.Decimal(0)
    for i, top in enumerate(tops):
        part = decimal.Decimal(top)
        for k, span in enumerate(spans):
            if i >> k & 1:
                part *= span
        total += part
    return total


def sign_of(roots, x):
    if not any(x[0]):
        return 0
    return 1 if value(roots, x) > 0 else -1


def point(roots, x, y):
    return (whole(roots, x), whole(roots, y))


def points_over(roots, seed, many):
    given = numbers_over(roots, seed, 2 * many)
    return list(zip(given[::2], given[1::2]))


def left_of_line(roots, line, place):
    """a * x + b * y - c."""
    return less(sum_of(product_of(roots, line[0], place[0]), product_of(roots, line[1], place[1])), line[2])


def far_by_hand(roots, one, other):
    e, f = less(one[0], other[0]), less(one[1], other[1])
    return sum_of(product_of(roots, e, e), product_of(roots, f, f))


def turn(roots, one, other, third):
    """Above nought where the third point is at the left as one goes from the one to the other."""
    e, f = less(other[0], one[0]), less(other[1], one[1])
    g, h = less(third[0], one[0]), less(third[1], one[1])
    return less(product_of(roots, e, h), product_of(roots, f, g))


def names_in(drawing, kind=None):
    """The names of a drawing's rows, all or those of one kind."""
    names = [row.split(" ")[1] for row in drawing.rows()]
    return [name for name in names if kind is None or drawing.place(name)[0] == kind]


def row_by_chance(wheel, drawing, most):
    """A row, right in most cases or wrong in some way, for a drawing as it is now."""
    there = names_in(drawing)
    fresh = [one + other for other in "abc" for one in "abcdefghij" if one + other not in there]

    def name_of(kind):
        if wheel.below(25) == 0 or not names_in(drawing, kind):
            return wheel.chosen(there + fresh[:2])
        return wheel.chosen(names_in(drawing, kind))

    def number():
        top, bottom = wheel.between(-most, most), wheel.between(1, 1 + most // 2)
        return str(top) if wheel.below(2) else f"{top}/{bottom}"

    name = wheel.chosen(there) if there and wheel.below(25) == 0 else fresh[0]
    way = wheel.below(13) if len(names_in(drawing, "point")) > 2 else 0
    if way < 2:
        return f"point {name} {number()} {number()}"
    if way < 5:
        return f"{'line' if way < 4 else 'ring'} {name} {name_of('point')} {name_of('point')}"
    if way < 6:
        return f"ring {name} {name_of('point')} by {number()}"
    if way < 8:
        return f"meet {name} {name_of('line')} {name_of('line')}"
    if way < 12:
        word = wheel.chosen(["first", "second", "second", "first", "first", "third"])
        return f"meet {name} {name_of('line' if way < 10 else 'ring')} {name_of('ring')} {word}"
    return wheel.chosen(["", "point", f"line {name}", f"ring {name} a by x", f"point {name} 1 01"])


class Thorn:
    """A thing that bears no look: whatever compares it, asks its length or walks it fails."""

    def __eq__(self, other):
        raise RuntimeError("compared")

    def __len__(self):
        raise RuntimeError("measured")

    def __iter__(self):
        raise RuntimeError("walked")

    def __bool__(self):
        raise RuntimeError("asked")

    __hash__ = None


NO_TEXTS = [
    None, True, False, 0, 1, -1, GREAT, (), (1, 2), [], [""], {}, set(), b"", object(), Thorn(), (Thorn(),), [Thorn()],
    str, range(3), ("",), [None],
]


class Looks:
    """Looks that test cases share."""

    def assert_number(self, roots, x):
        self.assertIs(type(x), tuple)
        self.assertEqual(len(x), 2)
        self.assertIs(type(x[0]), tuple)
        self.assertEqual(len(x[0]), 2 ** len(roots))
        for n in x[0] + (x[1],):
            self.assertIs(type(n), int)
        self.assertGreaterEqual(x[1], 1)
        self.assertEqual(math.gcd(x[1], *x[0]), 1)

    def assert_refused(self, kind, call, *given):
        try:
            told = call(*given)
        except ValueError as refusal:
            self.assertIs(type(refusal), kind)
            return refusal
        self.fail(f"not refused, but told: {told!r}")
