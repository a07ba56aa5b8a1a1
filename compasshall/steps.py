"""Rows read, written and done: each kind of row is a class under Step."""

from compasshall.errors import NoRow, NoText
from compasshall.meets import meet_of_lines, meets_of_line, meets_of_rings
from compasshall.places import line_of, ring_about, ring_through
from compasshall.sums import lifted
from compasshall.texts import fraction_read, fraction_text, is_name

POINT = ("point",)
LINE = ("line",)
RING = ("ring",)
LINE_OR_RING = ("line", "ring")


# A place is a tuple with its kind ahead; done gets a place for each name that the row needs,
# and gives the scaffold behind the row and the row's own place over it.


class Step:
    def __init__(self, words, others, wanted):
        self.words = words
        self.others = others
        self.wanted = wanted

    def text(self):
        return " ".join(self.words)

    def named(self):
        return self.words[1]

    def needs(self):
        return list(self.others)

    def wants(self):
        return list(self.wanted)


class FirstPoint(Step):
    def __init__(self, name, x, y):
        Step.__init__(self, ["point", name, fraction_text(x), fraction_text(y)], [], [])
        self.x = x
        self.y = y

    def done(self, roots, given):
        return (roots, POINT + (lifted(self.x, len(roots)), lifted(self.y, len(roots))))


class LineThrough(Step):
    def __init__(self, name, one, other):
        Step.__init__(self, ["line", name, one, other], [one, other], [POINT, POINT])

    def done(self, roots, given):
        return (roots, LINE + line_of(roots, bare(given[0]), bare(given[1])))


class RingThrough(Step):
    def __init__(self, name, one, other):
        Step.__init__(self, ["ring", name, one, other], [one, other], [POINT, POINT])

    def done(self, roots, given):
        return (roots, RING + ring_through(roots, bare(given[0]), bare(given[1])))


class RingBy(Step):
    def __init__(self, name, one, square):
        Step.__init__(self, ["ring", name, one, "by", fraction_text(square)], [one], [POINT])
        self.square = square

    def done(self, roots, given):
        return (roots, RING + ring_about(roots, bare(given[0]), lifted(self.square, len(roots))))


class MeetOfLines(Step):
    def __init__(self, name, one, other):
        Step.__init__(self, ["meet", name, one, other], [one, other], [LINE, LINE])

    def done(self, roots, given):
        return (roots, POINT + meet_of_lines(roots, bare(given[0]), bare(given[1])))


class MeetWithRing(Step):
    def __init__(self, name, one, other, word):
        Step.__init__(self, ["meet", name, one, other, word], [one, other], [LINE_OR_RING, RING])
        self.word = word

    def done(self, roots, given):
        if given[0][0] == "line":
            told = meets_of_line(roots, bare(given[0]), bare(given[1]))
        else:
            told = meets_of_rings(roots, bare(given[0]), bare(given[1]))
        # The last of them is the second, or the only one where both are the same point.
        at = 0 if self.word == "first" else -1
        return (told[0], POINT + told[1][at])


def bare(place):
    return place[1:]


def step_of(thing):
    if not isinstance(thing, str):
        raise NoRow("a row is a text")
    step = step_of_words(thing.split(" "))
    if step is None:
        raise NoRow(f"this is no row: {thing!r}")
    return step


def step_of_words(words):
    if len(words) < 4 or not is_name(words[1]):
        return None
    if words[0] == "point":
        return step_of_point(words)
    if words[0] == "line":
        return step_of_line(words)
    if words[0] == "ring":
        return step_of_ring(words)
    if words[0] == "meet":
        return step_of_meet(words)
    return None


def step_of_point(words):
    if len(words) != 4:
        return None
    x = fraction_or_none(words[2])
    y = fraction_or_none(words[3])
    if x is None or y is None:
        return None
    return FirstPoint(words[1], x, y)


def step_of_line(words):
    if len(words) != 4 or not are_names(words[2:]):
        return None
    return LineThrough(words[1], words[2], words[3])


def step_of_ring(words):
    if len(words) == 4 and are_names(words[2:]):
        return RingThrough(words[1], words[2], words[3])
    if len(words) != 5 or not is_name(words[2]) or words[3] != "by":
        return None
    square = fraction_or_none(words[4])
    if square is None:
        return None
    return RingBy(words[1], words[2], square)


def step_of_meet(words):
    if len(words) == 4 and are_names(words[2:]):
        return MeetOfLines(words[1], words[2], words[3])
    if len(words) != 5 or not are_names(words[2:4]) or words[4] not in ("first", "second"):
        return None
    return MeetWithRing(words[1], words[2], words[3], words[4])


def are_names(words):
    return all([is_name(word) for word in words])


def fraction_or_none(word):
    try:
        return fraction_read(word)
    except NoText:
        return None
