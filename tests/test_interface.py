"""The interface of ../shared/DOC.md: every name is there, with its arguments."""

import importlib
import inspect
import unittest

FUNCTIONS = """
sums value(term, boxes)
sums holds(ask, boxes)
sums all_hold(asks, boxes)
deeds done(deed, boxes)
deeds undone(row, boxes)
deeds redone(row, boxes)
deeds all_done(deeds, boxes)
tree Tree(kinds, elders, starts)
tree above(tree, mood)
tree depth(tree, mood)
tree within(tree, mood, other)
tree inner(tree, mood)
tree beneath(tree, mood)
roads road(tree, upper, mood)
roads top(tree, one, other)
chart Chart(boxes, names, tree, ins, outs, ways)
chart signs(chart)
chart firsts(chart)
chart is_name(text)
looking looked(chart)
writing shown(chart)
reading read(text)
opening is_whole(tree, opens)
opening opened(tree, memory, mood, mode)
opening entered(tree, memory, upper, target, mode)
opening left(tree, opens, upper)
opening remembered(tree, memory, opens, moods)
choosing goable(chart, opens, leaf, sign)
choosing number_asks(chart, way)
choosing picks(chart, opens, boxes, sign)
choosing meet(chart, one, other)
choosing kept(chart, found)
moving heeded(chart, mood)
moving moved(chart, opens, memory, ways)
moving begun(chart)
journal performed(script, boxes)
journal walked(rows, state)
journal walked_back(rows, state)
journal told(rows)
nested NestRun(chart)
asking branches(chart, opens, sign, most)
flat Table(boxes, signs, begin, flats, rows)
flat flattened(chart, most=60)
flatrun FlatRun(table)
unnest unnested(table)
least classes(table)
least merged(table)
parting parted(table, one, other)
paths path_to(table, mood)
paths idle_ways(chart, table)
tale line_of(chart, row)
tale tale(text, signs, most=0)
errors BadRow(row)
errors NoName(row)
"""

METHODS = """
runner Runner feed(self, sign)
runner Runner back(self)
runner Runner fed(self)
runner Runner story(self)
runner Runner numbers(self)
nested NestRun moods(self)
nested NestRun state(self)
flatrun FlatRun moods(self)
flatrun FlatRun flat(self)
"""


def drawn(module, name):
    return getattr(importlib.import_module(f"moodtree.{module}"), name)


class InterfaceTest(unittest.TestCase):
    def test_functions_and_classes(self):
        for line in FUNCTIONS.strip().split("\n"):
            module, _, form = line.partition(" ")
            name, _, arguments = form.partition("(")
            self.assertEqual(str(inspect.signature(drawn(module, name))), "(" + arguments, line)

    def test_methods(self):
        for line in METHODS.strip().split("\n"):
            module, owner, form = line.split(" ", 2)
            name, _, arguments = form.partition("(")
            self.assertEqual(str(inspect.signature(getattr(drawn(module, owner), name))), "(" + arguments, line)

    def test_runs_stand_under_runner(self):
        for module, name in (("nested", "NestRun"), ("flatrun", "FlatRun")):
            self.assertTrue(issubclass(drawn(module, name), drawn("runner", "Runner")))

    def test_refusals_stand_straight_under_mood_error(self):
        refusal = drawn("errors", "MoodError")
        self.assertEqual(refusal.__bases__, (ValueError,))
        for name in "BadTree BadName BadBox BadDeed BadWay TooWide NoStep BadRow NoName".split():
            self.assertEqual(drawn("errors", name).__bases__, (refusal,))


if __name__ == "__main__":
    unittest.main()
