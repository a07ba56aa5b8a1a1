"""Signs of numbers, and the whole numbers around them."""

from compasshall.overs import norm_tops
from compasshall.sums import against, behind_tops, front_tops, minus
from compasshall.wholes import ten_times_itself, whole_root

FIRST_BITS = 64


def sign(roots, x):
    # The bottom is above nought, so the tops alone tell the sign.
    return sign_of_tops(roots, x[0])


def sign_of_tops(roots, tops):
    if len(roots) == 0:
        return sign_of_whole(tops[0])
    beneath = roots[:-1]
    front = sign_of_tops(beneath, front_tops(tops))
    behind = sign_of_tops(beneath, behind_tops(tops))
    if front == behind or behind == 0:
        return front
    if front == 0:
        return behind
    return front * sign_of_tops(beneath, norm_tops(roots, tops))


def sign_of_whole(n):
    if n == 0:
        return 0
    return 1 if n > 0 else -1


def compare(roots, x, y):
    return sign(roots, minus(x, y))


def size(roots, x):
    return against(x) if sign(roots, x) < 0 else x


def floor_at(roots, x, places=0):
    scale = ten_times_itself(places)
    tops = tuple([top * scale for top in x[0]])
    bits = FIRST_BITS
    around = floors_around(roots, tops, x[1], bits)
    # A number that needs a root is never whole, and a fraction is its own lower bound: so both come to one.
    while around[0] != around[1]:
        bits *= 2
        around = floors_around(roots, tops, x[1], bits)
    return around[0]


def floors_around(roots, tops, bottom, bits):
    around = bounds(roots, tops, 1 << bits)
    divisor = bottom << bits
    return (around[0] // divisor, around[1] // divisor)


# Bounds are two whole numbers, one not above and one not below so many (fine) times what they bound.


def bounds(roots, tops, fine):
    if len(roots) == 0:
        return (tops[0] * fine, tops[0] * fine)
    front = bounds(roots[:-1], front_tops(tops), fine)
    behind = bounds(roots[:-1], behind_tops(tops), fine)
    last = root_bounds(roots, fine)
    least = behind[0] * (last[0] if behind[0] >= 0 else last[1])
    most = behind[1] * (last[1] if behind[1] >= 0 else last[0])
    return (front[0] + least // fine, front[1] + most // fine + 1)


def root_bounds(roots, fine):
    under = bounds(roots[:-1], roots[-1], fine)
    # The number under a root is above nought, though rough bounds may reach below.
    return (whole_root(max(under[0], 0) * fine), whole_root(under[1] * fine) + 1)
