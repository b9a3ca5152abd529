"""The interface: each name is defined in the file under which it is listed, with the arguments that are listed."""

import importlib
import inspect
import unittest

from openranges import errors
from openranges.clauses import Answers, Bound, Needs, Pair, Refuses, Spreads, Step
from openranges.lines import Line
from openranges.places import Places
from openranges.programs import Program
from openranges.rules import Rules
from openranges.specs import Spec
from openranges.talks import Talk

FUNCTIONS = {
    "lines": ("first_above(one, other, start)", "lowest(lines, first, last)", "highest(lines, first, last)"),
    "programs": ("first_difference(one, other)", "mined(programs, clause)"),
    "musts": ("musts(rules, *, asked=())", "barred(rules, *, asked=())", "grounds(rules, call, *, asked=())",
              "is_grounds(rules, call, rows, *, asked=())"),
    "ladders": ("hop_cost(rules, hop)", "ring(rules, *, asked=())", "can_answer(rules, calls)",
                "cheapest(rules, start, goal, *, asked=())", "is_chain(rules, hops, start, goal, *, asked=())"),
    "chains": ("placed(item, x)", "chain_line(rules, hops)", "rows_hold(rules, rows, asked, first, last)",
               "hops_hold(rules, hops, rows, first, last)"),
    "claims": ("asks(rules, claim)", "holds(rules, claim)", "against(rules, claim)", "impossible(rules)", "derivation(rules, claim)",
               "is_derivation(rules, claim, places, parts)"),
    "ranges": ("status(rules, function, place)", "range_at(rules, function, place)", "table(rules, function)",
               "is_table(rules, function, pieces)", "fixed(rules, function)", "least_program(rules)", "greatest_program(rules)"),
    "strongest": ("strongest(rules, shape)", "with_number(shape, height)"),
    "margin": ("tightened(rules, amount)", "margin(rules)", "slack(rules, index)", "tight(rules)"),
    "editions": ("within(one, other)", "parting(one, other)", "needless(spec)", "irreducible(spec, is_enough)"),
    "texts": ("read_clause(text)", "write_spec(spec)", "read_spec(text)"),
}
TURNS = ("functions_told(self)", "negated(self)", "times(self, factor)", "moved(self, by)", "mirrored(self, last)", "text(self)")
CLASSES = {
    Places: ("size(self)", "rank(self, x)", "least(self)", "greatest(self)", "within(self, other)", "shifted(self, by)",
             "mirrored(self, last)", "inner(self)", "text(self)", "read(text)"),
    Line: ("moved(self, by)", "mirrored(self, last)", "text(self)"),
    Answers: TURNS, Refuses: TURNS, Needs: TURNS, Spreads: TURNS, Step: TURNS,
    Bound: (*TURNS, "line(self)"), Pair: (*TURNS, "line(self)"),
    Program: ("pieces(self, function)", "answered(self, function)", "breaches(self, clause)", "breach(self, clause)",
              "keeps(self, clauses)", "changed(self, function, first, end, line)", "negated(self)", "times(self, factor)", "mirrored(self)"),
    Spec: ("drop(self, name)", "copy(self)", "selected(self, names)", "joined(self, other)", "negated(self)", "times(self, factor)",
           "mirrored(self)", "trial(self, action)", "attempt(self, action)"),
    Talk: ("status(self, function, place)", "range_at(self, function, place)", "answer(self, function, place, value)",
           "refuse(self, function, place)", "undo(self)", "finish(self)"),
}
MADE = {
    Places: ("places", "(stretches=())"), Line: ("lines", "(slope, height)"), Answers: ("clauses", "(function, places)"),
    Refuses: ("clauses", "(function, places)"), Needs: ("clauses", "(function, places, other)"),
    Spreads: ("clauses", "(function, places, way)"), Bound: ("clauses", "(function, places, sign, slope, height)"),
    Pair: ("clauses", "(function, places, sign, other, slope, height)"), Step: ("clauses", "(function, places, sign, height)"),
    Program: ("programs", "(last, told)"), Rules: ("rules", "(functions, last, told)"), Spec: ("specs", "(functions, last)"),
    Talk: ("talks", "(spec)"),
}
OPERATORS = {
    Places: ("__bool__", "__contains__", "__eq__", "__getitem__", "__or__", "__and__", "__sub__", "__xor__"),
    Line: ("__call__", "__add__", "__radd__", "__sub__", "__rsub__", "__neg__", "__mul__", "__rmul__", "__eq__"),
    Program: ("__call__", "__eq__", "__and__", "__or__"), Rules: ("__eq__",), Spec: ("__setitem__", "__getitem__", "__len__", "__iter__"),
    **{each: ("__eq__",) for each in (Answers, Refuses, Needs, Spreads, Bound, Pair, Step)},
}


class Interface(unittest.TestCase):
    def test_functions(self):
        for name, told in FUNCTIONS.items():
            module = importlib.import_module("openranges." + name)
            for line in told:
                function = getattr(module, line.split("(")[0])
                self.assertTrue(inspect.isfunction(function), line)
                self.assertEqual(function.__module__, module.__name__)
                self.assertEqual(function.__name__ + str(inspect.signature(function)), line)

    def test_classes(self):
        for each, (module, arguments) in MADE.items():
            self.assertEqual(each.__module__, "openranges." + module)
            self.assertEqual(str(inspect.signature(each)), arguments)
            self.assertIn("__init__", vars(each))

    def test_methods_stand_in_the_class_itself(self):
        for each, told in CLASSES.items():
            for line in told:
                name = line.split("(")[0]
                self.assertIn(name, vars(each), each)
                self.assertEqual(name + str(inspect.signature(getattr(each, name))), line)
        for each, names in OPERATORS.items():
            for name in names:
                self.assertIn(name, vars(each), each)
        for each, names in ((Spec, ("names", "entries")), (Talk, ("facts",))):
            for name in names:
                self.assertIsInstance(vars(each)[name], property)

    def test_attributes(self):
        every = Places([(0, 9)])
        program = Program(9, {"f": [(0, 9, None)]})
        for value, names in ((every, ("stretches",)), (Line(1, 2), ("slope", "height")), (program, ("last", "functions")),
                             (Rules(["f"], 9, []), ("functions", "told", "last")), (Spec(["f"], 9), ("rules",)),
                             (Step("f", every, "=", 1), ("kind", "function", "places", "sign", "height"))):
            for name in names:
                self.assertIn(name, vars(value))

    def test_errors(self):
        self.assertTrue(errors.RangesError.__bases__ == (ValueError,))
        self.assertEqual(sum(isinstance(each, type) for each in vars(errors).values()), 26)


if __name__ == "__main__":
    unittest.main()
