"""A desk: it keeps a drawing, is told lines and answers each with a text."""

from compasshall.claims import claim_of
from compasshall.drawings import Drawing, drawn, found
from compasshall.equations import equation
from compasshall.errors import NoAsk
from compasshall.signs import floor_at
from compasshall.steps import POINT, bare
from compasshall.texts import is_name, is_plain

MOST_PLACES = 60


class Desk:
    def __init__(self):
        self.drawing = Drawing()

    def told(self, thing):
        if not isinstance(thing, str):
            raise NoAsk("a line is a text")
        parts = thing.partition(" ")
        # Whatever stands behind one of these and its blank is a row's or a claim's to refuse.
        if parts[1] == " " and parts[0] == "draw":
            return self.draw(parts[2])
        if parts[1] == " " and parts[0] == "claim":
            return self.truth_of(parts[2])
        if parts[1] == " " and parts[0] == "sign":
            return self.sign_of(parts[2])
        return self.answer(thing.split(" "))

    def answer(self, words):
        if words == ["undo"]:
            return self.undo()
        if words == ["rows"]:
            return self.written()
        if words == ["roots"]:
            return str(len(self.drawing.roots()))
        if len(words) == 3 and words[0] == "where" and is_name(words[1]) and are_places(words[2]):
            return self.where(words[1], int(words[2]))
        if len(words) == 2 and words[0] == "degree" and is_name(words[1]):
            return self.degree(words[1])
        raise NoAsk("this is no line of a desk")

    def draw(self, row):
        self.drawing.add(row)
        return str(len(self.drawing.rows()))

    def undo(self):
        rows = self.drawing.rows()
        if len(rows) == 0:
            raise NoAsk("there is no row to take away")
        # The rows left are done anew, since a root that the last row put in goes with it.
        self.drawing = drawn(rows[:-1])
        return str(len(rows) - 1)

    def written(self):
        rows = self.drawing.rows()
        return "; ".join(rows) if len(rows) > 0 else "none"

    def truth_of(self, text):
        return "true" if claim_of(text).asked(self.drawing)[0] else "false"

    def sign_of(self, text):
        return str(claim_of(text).asked(self.drawing)[1])

    def where(self, name, places):
        roots = self.drawing.roots()
        return " ".join([str(floor_at(roots, x, places)) for x in self.point(name)])

    def degree(self, name):
        roots = self.drawing.roots()
        return " ".join([str(len(equation(roots, x)) - 1) for x in self.point(name)])

    def point(self, name):
        return bare(found(self.drawing, [name], [POINT])[0])


def are_places(word):
    if word == "0":
        return True
    return is_plain(word) and int(word) <= MOST_PLACES
