"""Drawings, done row by row."""

from compasshall.errors import NoKind, NoName, TooGreat, TooMany, Twice
from compasshall.steps import FirstPoint, step_of
from compasshall.sums import lifted
from compasshall.wholes import has_more_figures

MOST_POINTS = 6
MOST_OTHERS = 20
MOST_FIGURES_TOLD = 300


class Drawing:
    def __init__(self):
        self.steps = []
        self.scaffold = ()
        self.kept = {}

    def add(self, thing):
        step = step_of(thing)
        if self.is_full(isinstance(step, FirstPoint)):
            raise TooMany("there are six first points, or twenty other rows, already")
        if step.named() in self.kept:
            raise Twice(step.named())
        told = step.done(self.scaffold, found(self, step.needs(), step.wants()))
        if are_great(told[0][len(self.scaffold):], told[1]):
            raise TooGreat("a number of this row has more than three hundred figures")
        # Whatever refuses the row has done so by now, and the drawing is still as it was.
        self.lift(told[0])
        self.steps.append(step)
        self.kept[step.named()] = told[1]

    def is_full(self, first):
        alike = [step for step in self.steps if isinstance(step, FirstPoint) == first]
        return len(alike) == (MOST_POINTS if first else MOST_OTHERS)

    def lift(self, roots):
        places = [(name, lifted_place(place, len(roots))) for name, place in self.kept.items()]
        self.kept = dict(places)
        self.scaffold = roots

    def rows(self):
        return [step.text() for step in self.steps]

    def roots(self):
        return self.scaffold

    def place(self, name):
        if name not in self.kept:
            raise NoName(name)
        return self.kept[name]


def drawn(rows):
    drawing = Drawing()
    for row in rows:
        drawing.add(row)
    return drawing


def found(drawing, names, wanted):
    places = []
    for name, kinds in zip(names, wanted):
        place = drawing.place(name)
        if place[0] not in kinds:
            raise NoKind(name)
        places.append(place)
    return places


def lifted_place(place, many):
    return place[:1] + tuple([lifted(number, many) for number in place[1:]])


def are_great(new_roots, place):
    for under in new_roots:
        if has_great(under):
            return True
    return any([has_great(number[0] + (number[1],)) for number in place[1:]])


def has_great(wholes):
    return any([has_more_figures(n, MOST_FIGURES_TOLD) for n in wholes])
