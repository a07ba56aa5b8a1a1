"""The last root turned, the norm, and one number over another."""

from compasshall.errors import NoOver
from compasshall.sums import against_tops, behind_tops, front_tops, plus_tops, times_tops
from compasshall.sums import is_nought, lifted, made, times


def turned(x):
    return (front_tops(x[0]) + against_tops(behind_tops(x[0])), x[1])


def norm(roots, x):
    return made(norm_tops(roots, x[0]), x[1] * x[1])


def norm_tops(roots, tops):
    beneath = roots[:-1]
    a = front_tops(tops)
    b = behind_tops(tops)
    squared = times_tops(beneath, times_tops(beneath, b, b), roots[-1])
    return plus_tops(times_tops(beneath, a, a), against_tops(squared))


def over(roots, x, y):
    if is_nought(y):
        raise NoOver("no number is told over nought")
    return times(roots, x, one_over(roots, y))


def one_over(roots, y):
    if len(roots) == 0:
        return made((y[1],), y[0][0])
    # y times the turned y is the norm, which has one root less: so the roots go away one by one.
    beneath = one_over(roots[:-1], norm(roots, y))
    return times(roots, turned(y), lifted(beneath, len(roots)))
