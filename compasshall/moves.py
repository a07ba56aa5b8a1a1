"""Rows moved, turned and made greater, and rows told in another order."""

from compasshall.errors import NoChange, NoMove, TooGreat
from compasshall.places import sum_of_products
from compasshall.steps import FirstPoint, RingBy, step_of
from compasshall.sums import against, is_nought, plus, times
from compasshall.texts import MOST_FIGURES
from compasshall.wholes import has_more_figures


def moved(rows, p, q, e, f):
    if is_nought(p) and is_nought(q):
        raise NoMove("a move by nought would bring all points to one")
    return [moved_step(step_of(row), p, q, e, f).text() for row in rows]


def moved_step(step, p, q, e, f):
    if isinstance(step, FirstPoint):
        x = sum_of_products((), (p, against(q)), (step.x, step.y))
        y = sum_of_products((), (q, p), (step.x, step.y))
        return FirstPoint(step.named(), fitting(plus(x, e)), fitting(plus(y, f)))
    if isinstance(step, RingBy):
        scale = sum_of_products((), (p, q), (p, q))
        return RingBy(step.named(), step.needs()[0], fitting(times((), step.square, scale)))
    return step


def fitting(x):
    # What is written here is to be read as a row again.
    if has_more_figures(x[0][0], MOST_FIGURES) or has_more_figures(x[1], MOST_FIGURES):
        raise TooGreat("a fraction has more than sixty figures")
    return x


def changed(rows, at):
    if at < 0 or at > len(rows) - 2:
        raise NoChange("there are no two rows to change places")
    if step_of(rows[at]).named() in step_of(rows[at + 1]).needs():
        raise NoChange("the later row needs the earlier one")
    return rows[:at] + [rows[at + 1], rows[at]] + rows[at + 2:]
