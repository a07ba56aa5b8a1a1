"""[1], [2], [3] over the whole program, and the interface: names, arguments and kinds."""

import importlib
import inspect
import unittest

from compasshall.carrying import carried
from compasshall.claims import Claim, claim_of
from compasshall.desk import Desk
from compasshall.drawings import Drawing, drawn
from compasshall.equations import equation
from compasshall.moves import changed, moved
from compasshall.places import far
from compasshall.scaffolds import is_scaffold
from compasshall.signs import floor_at, sign
from compasshall.squares import holds, paper, root
from compasshall.steps import Step, step_of
from handy import DRAWINGS, FIFTH, HALVED, MIXED, SIXTH, Looks, names_in, sign_of, whole

FUNCTIONS = {
    "wholes": {"common": "a b", "whole_root": "n"},
    "texts": {"fraction_read": "text", "fraction_text": "x"},
    "sums": {"made": "tops bottom", "plus": "x y", "minus": "x y", "against": "x", "times": "roots x y",
             "lifted": "x many", "floors": "x", "halves": "x"},
    "overs": {"turned": "x", "norm": "roots x", "over": "roots x y"},
    "signs": {"sign": "roots x", "compare": "roots x y", "size": "roots x", "floor_at": "roots x places"},
    "squares": {"root": "roots x", "paper": "roots x", "holds": "roots x thing"},
    "scaffolds": {"is_scaffold": "thing", "grown": "roots x"},
    "places": {"line_of": "roots one other", "ring_about": "roots point s", "ring_through": "roots point other",
               "far": "roots one other", "side_of_line": "roots line point", "side_of_ring": "roots ring point"},
    "meets": {"meet_of_lines": "roots line other", "meets_of_line": "roots line ring",
              "meets_of_rings": "roots ring other"},
    "steps": {"step_of": "thing"},
    "drawings": {"drawn": "rows"},
    "claims": {"claim_of": "thing"},
    "moves": {"moved": "rows p q e f", "changed": "rows at"},
    "carrying": {"carried": "old new x"},
    "equations": {"equation": "roots x"},
}
METHODS = {
    ("steps", "Step"): {"text": "", "named": "", "needs": ""},
    ("drawings", "Drawing"): {"add": "thing", "rows": "", "roots": "", "place": "name"},
    ("claims", "Claim"): {"text": "", "measured": "drawing", "asked": "drawing"},
    ("desk", "Desk"): {"told": "thing"},
}


class Interface(unittest.TestCase):
    def test_functions_and_their_arguments(self):
        for file, functions in FUNCTIONS.items():
            module = importlib.import_module("compasshall." + file)
            for name, arguments in functions.items():
                told = inspect.signature(getattr(module, name)).parameters
                self.assertEqual(" ".join(told), arguments, name)

    def test_classes_and_their_methods(self):
        for (file, name), methods in METHODS.items():
            kind = getattr(importlib.import_module("compasshall." + file), name)
            self.assertIsInstance(kind, type)
            for method, arguments in methods.items():
                told = list(inspect.signature(getattr(kind, method)).parameters)
                self.assertEqual(" ".join(told[1:]), arguments, (name, method))

    def test_the_places_of_floor_at_may_be_left_out(self):
        told = inspect.signature(floor_at).parameters["places"]
        self.assertEqual(told.default, 0)

    def test_classes_made_of_nothing(self):
        self.assertEqual(Drawing().rows(), [])
        self.assertEqual(Desk().told("rows"), "none")
        for text in ["point a 1 2", "line l a b", "ring r a b", "ring r a by 1", "meet m a b", "meet m a b first"]:
            self.assertIn(Step, type(step_of(text)).__mro__[1:])
        for text in ["same a b", "on a x", "even a b c d", "longer a b c d", "square a b c d", "middle a b c",
                     "left a b c", "row a b c", "corners a b c d e f"]:
            self.assertIn(Claim, type(claim_of(text)).__mro__[1:])


class Promise(Looks, unittest.TestCase):
    def test_numbers_of_drawings_through_all_that_is_told_of_numbers(self):
        """What a drawing told, whatever its size, is handed in as it was told."""
        for rows in DRAWINGS:
            drawing = drawn(rows)
            roots = drawing.roots()
            self.assertTrue(is_scaffold(roots))
            for name in names_in(drawing):
                for x in drawing.place(name)[1:]:
                    self.assert_number(roots, x)
                    self.assertEqual(sign(roots, x), sign_of(roots, x))
                    self.assertEqual(carried(roots, roots, x), x)
                    self.assertIn(len(equation(roots, x)) - 1, (1, 2, 4, 8))
                    shown = paper(roots, x)
                    self.assertEqual(shown is None, root(roots, x) is not None)
                    self.assertEqual(holds(roots, x, shown), shown is not None)

    def test_each_number_has_one_telling(self):
        """Points that are the same, found in several ways, have the same tuples."""
        for rows, pairs in [(SIXTH, ["fb"]), (HALVED, ["eo"])]:
            drawing = drawn(rows)
            for one, other in pairs:
                self.assertEqual(drawing.place(one), drawing.place(other))
        drawing = drawn(FIFTH + ["line ot o t", "line ca c a", "line db d b", "meet p ca db", "meet y ot ab",
                                 "line pt p t"])
        # All three lines through the top go through one point of the upright line.
        self.assertEqual(drawing.place("p")[1], whole(drawing.roots(), 0))
        self.assertTrue(claim_of("on p ot").asked(drawing)[0])
        self.assertEqual(far(drawing.roots(), drawing.place("a")[1:], drawing.place("y")[1:]),
                         far(drawing.roots(), drawing.place("b")[1:], drawing.place("y")[1:]))

    def test_a_root_is_put_in_only_where_it_is_needed(self):
        """Each root of a drawing is no number over the roots ahead of it, and is needed by some number told."""
        for rows in DRAWINGS:
            drawing = drawn(rows)
            needed = {}
            for name in names_in(drawing):
                for x in drawing.place(name)[1:]:
                    for k in range(len(drawing.roots())):
                        if any(top != 0 for i, top in enumerate(x[0]) if i >> k & 1):
                            needed[k] = True
            self.assertEqual(sorted(needed), list(range(len(drawing.roots()))))

    def test_lists_told_are_the_askers_own(self):
        step, drawing = step_of("line l a b"), drawn(MIXED)
        move = (((3,), 5), ((4,), 5), ((1,), 1), ((0,), 1))
        x = drawing.place("e")[1]
        for told in [step.needs, drawing.rows, lambda: moved(MIXED, *move), lambda: changed(MIXED, 0),
                     lambda: equation(drawing.roots(), x)]:
            first, kept = told(), told()
            self.assertEqual(first, kept)
            first.reverse()
            first.append("more")
            self.assertEqual(told(), kept)
            self.assertIs(type(kept), list)

    def test_a_desk_tells_what_the_drawing_tells(self):
        for rows in DRAWINGS:
            desk, drawing = Desk(), Drawing()
            for row in rows:
                self.assertEqual(desk.told("draw " + row), str(len(drawing.rows()) + 1))
                drawing.add(row)
            for name in names_in(drawing, "point"):
                told = [str(floor_at(drawing.roots(), x, 30)) for x in drawing.place(name)[1:]]
                self.assertEqual(desk.told(f"where {name} 30"), " ".join(told))


if __name__ == "__main__":
    unittest.main()
