"""Numbers over a scaffold: made, added, multiplied, lifted and parted."""

from compasshall.errors import NoOver
from compasshall.wholes import are_wholes, common, is_whole


def made(tops, bottom):
    if bottom == 0:
        raise NoOver("no number has the bottom nought")
    shared = bottom
    for top in tops:
        shared = common(shared, top)
    # Divided by a number below nought, a bottom below nought comes above it.
    if bottom < 0:
        shared = -shared
    return (tuple([top // shared for top in tops]), bottom // shared)


def plus(x, y):
    tops = [one * y[1] + other * x[1] for one, other in zip(x[0], y[0])]
    return made(tuple(tops), x[1] * y[1])


def minus(x, y):
    return plus(x, against(y))


def against(x):
    return (against_tops(x[0]), x[1])


def times(roots, x, y):
    return made(times_tops(roots, x[0], y[0]), x[1] * y[1])


def lifted(x, many):
    return (x[0] + (0,) * ((1 << many) - len(x[0])), x[1])


def floors(x):
    many = 0
    place = 1
    while not are_noughts(x[0][place:]):
        many += 1
        place *= 2
    return many


def halves(x):
    return (made(front_tops(x[0]), x[1]), made(behind_tops(x[0]), x[1]))


def is_nought(x):
    return are_noughts(x[0])


def is_number(thing, many):
    if not isinstance(thing, tuple) or len(thing) != 2:
        return False
    if not are_wholes(thing[0], 1 << many) or not is_whole(thing[1]) or thing[1] < 1:
        return False
    return made(thing[0], thing[1]) == thing


# From here on tops stand alone, as whole sums of products of roots: without a bottom
# nothing has to be brought to lowest terms on the way.


def are_noughts(tops):
    return all([top == 0 for top in tops])


def front_tops(tops):
    return tops[:len(tops) // 2]


def behind_tops(tops):
    return tops[len(tops) // 2:]


def plus_tops(one, other):
    return tuple([first + second for first, second in zip(one, other)])


def against_tops(tops):
    return tuple([-top for top in tops])


def times_tops(roots, one, other):
    if len(roots) == 0:
        return (one[0] * other[0],)
    beneath = roots[:-1]
    a = front_tops(one)
    b = behind_tops(one)
    c = front_tops(other)
    d = behind_tops(other)
    # The last root times itself is the number under it, so b * d comes back among the tops in front.
    squared = times_tops(beneath, times_tops(beneath, b, d), roots[-1])
    front = plus_tops(times_tops(beneath, a, c), squared)
    behind = plus_tops(times_tops(beneath, a, d), times_tops(beneath, b, c))
    return front + behind
