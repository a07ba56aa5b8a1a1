"""Least equations of numbers."""

from compasshall.overs import turned
from compasshall.sums import against, halves, is_nought, lifted, plus, times
from compasshall.wholes import common


# Until it is told, an equation is a list of numbers: the one at place k stands before x times itself k times.


def equation(roots, x):
    told = [against(x), lifted(((1,), 1), len(roots))]
    beneath = roots
    # The last one is always 1, and what is told at first is least over all roots. Where it needs the last root, it
    # and its turned one share no part, so their product is the least equation beneath; else it is least there itself.
    while len(beneath) > 0:
        if not all([is_nought(halves(number)[1]) for number in told]):
            told = product(beneath, told, [turned(number) for number in told])
        told = [halves(number)[0] for number in told]
        beneath = beneath[:-1]
    return without_bottoms(told)


def product(roots, one, other):
    told = [lifted(((0,), 1), len(roots))] * (len(one) + len(other) - 1)
    for i, first in enumerate(one):
        for j, second in enumerate(other):
            told[i + j] = plus(told[i + j], times(roots, first, second))
    return told


def without_bottoms(told):
    least = 1
    for number in told:
        least = least // common(least, number[1]) * number[1]
    # Among the numbers is 1, and least is the least that all bottoms divide: so no number above 1 divides all of these.
    return [number[0][0] * (least // number[1]) for number in told]
