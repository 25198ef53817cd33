"""[1] over the whole program: the runs of a chart, of its table, of the chart written back and of the least table."""

import random
import unittest

from helper import drawn_chart, spelled, spelled_table
from moodtree.chart import Chart
from moodtree.errors import NoStep, TooWide
from moodtree.flat import Table, flattened
from moodtree.flatrun import FlatRun
from moodtree.journal import told, walked, walked_back
from moodtree.least import classes, merged
from moodtree.looking import looked
from moodtree.nested import NestRun
from moodtree.paths import idle_ways
from moodtree.reading import read
from moodtree.unnest import unnested
from moodtree.writing import shown

NAMES = ("go", "a", "b", "sign", "z9", "other")


class WholeTest(unittest.TestCase):
    def same(self, chart, table, least, runs):
        nested, flat, back, small = runs
        self.assertEqual(nested.story(), flat.story())
        self.assertEqual(nested.moods(), flat.moods())
        for run in runs:
            self.assertEqual(told(run.story()), told(nested.story()))
            self.assertEqual(run.numbers(), nested.numbers())
            self.assertEqual(run.fed(), nested.fed())
        self.assertEqual(small.story(), told(flat.story()))
        self.assertEqual(back.moods(), [0, flat.flat() + 1])
        self.assertEqual(small.flat(), classes(table)[flat.flat()])
        self.assertEqual(small.moods(), list(least.flats[small.flat()][0]))

    def test_four_runs_of_many_charts(self):
        made = 0
        for seed in range(260):
            chart = read(shown(drawn_chart(f"whole {seed}", 4 + seed % 12, 4 + seed % 8, NAMES[:2 + seed % 4], (0, 1, 2, -1))))
            try:
                table = flattened(chart, 80)
            except TooWide:
                continue
            made += 1
            least = merged(table)
            before = (spelled(chart), spelled_table(table), spelled_table(least))
            runs = (NestRun(chart), FlatRun(table), NestRun(unnested(table)), FlatRun(least))
            draw = random.Random(f"whole {seed}")
            for _ in range(20):
                if draw.random() < 0.3 and runs[0].fed():
                    state = runs[0].state()
                    rows = [run.back() for run in runs]
                    self.assertEqual(walked(rows[0], runs[0].state()), state)
                else:
                    name = draw.choice(NAMES)
                    state = runs[0].state()
                    rows = [run.feed(name) for run in runs]
                    self.assertEqual(walked_back(rows[0], runs[0].state()), state)
                self.assertEqual(rows[0], rows[1])
                self.assertEqual(told(rows[1]), told(rows[2]))
                self.assertEqual(told(rows[1]), rows[3])
                self.same(chart, table, least, runs)
            while runs[0].fed():
                for run in runs:
                    run.back()
                self.same(chart, table, least, runs)
            for run in runs:
                self.assertRaises(NoStep, run.back)
            self.same(chart, table, least, runs)
            self.assertEqual((spelled(chart), spelled_table(table), spelled_table(least)), before)
        self.assertGreater(made, 180)

    def test_rows_of_deeds_and_asks_may_be_lists(self):
        for seed in range(120):
            chart = drawn_chart(f"lists {seed}", 9, 7, NAMES[:2], (0, 1))
            ways = [(way[0], way[1], list(way[2]), list(way[3]), way[4], way[5]) for way in chart.ways]
            ins = [list(deeds) for deeds in chart.ins]
            outs = [list(deeds) for deeds in chart.outs]
            other = Chart(chart.boxes, chart.names, chart.tree, ins, outs, ways)
            self.assertIsNone(looked(other))
            self.assertEqual(shown(other), shown(chart))
            try:
                table = flattened(chart, 80)
            except TooWide:
                continue
            self.assertEqual(spelled_table(flattened(other, 80)), spelled_table(table))
            rows = {key: [(list(asks), list(script), behind) for asks, script, behind in table.rows[key]] for key in table.rows}
            same = Table(table.boxes, table.signs, list(table.begin), table.flats, rows)
            self.assertEqual(classes(same), classes(table))
            self.assertEqual(spelled_table(merged(same)), spelled_table(merged(table)))
            self.assertEqual(spelled(unnested(same)), spelled(unnested(table)))
            self.assertEqual(idle_ways(chart, same), idle_ways(chart, table))
            runs = (NestRun(chart), NestRun(other), FlatRun(table), FlatRun(same))
            for name in NAMES * 2:
                first = runs[0].feed(name)
                for run in runs[1:]:
                    self.assertEqual(run.feed(name), first)

    def test_the_least_table_is_that_of_the_chart_written_back_too(self):
        for seed in range(100):
            try:
                table = flattened(drawn_chart(f"back {seed}", 8, 6, NAMES[:2], (0, 1)), 40)
                again = flattened(unnested(table), 60)
            except TooWide:
                continue
            one, other = FlatRun(merged(table)), FlatRun(merged(again))
            draw = random.Random(f"back {seed}")
            self.assertEqual(one.story(), other.story())
            for _ in range(10):
                name = draw.choice(NAMES)
                self.assertEqual(one.feed(name), other.feed(name))


if __name__ == "__main__":
    unittest.main()
