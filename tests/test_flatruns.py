"""Runs of tables and tables written back: points [45], [46], [39] to [41] and [1], and [4]."""

import random
import unittest

from helper import drawn_chart, spelled, spelled_table
from moodtree.errors import NoStep, TooWide
from moodtree.flat import Table, flattened
from moodtree.flatrun import FlatRun
from moodtree.journal import told
from moodtree.looking import looked
from moodtree.nested import NestRun
from moodtree.reading import read
from moodtree.runner import Runner
from moodtree.unnest import unnested
from moodtree.writing import shown

NAMES = ("go", "a", "b", "sign", "z9", "other")


def sign(name):
    return ("sign", name)


def tables():
    """Charts with their tables, and a source of chance for each."""
    for seed in range(500):
        small = seed % 2
        chart = drawn_chart(
            f"flat {seed}", 7 if small else 13, 9, ("go", "a") if small else NAMES[:5], (0, 0, 1, 1, 2, -1))
        try:
            table = flattened(chart, 100)
        except TooWide:
            continue
        yield chart, table, random.Random(f"flat feeds {seed}")


def by_hand():
    """A table that is of no chart: a list without rows, a flat that nothing leads to, flats that are no open moods."""
    return Table(
        [("x", 5)], ["s", "t"], [("put", 0, (0, 1)), ("in", 7), ("call", "t")],
        [((), ()), ((3, 9), (7,)), ((0,), (-5, 4))],
        {
            (0, "s"): [((("<", (0, 0), (-1, 9)),), (("put", 0, (0, 2)), ("out", 4)), 0), ((), (("call", "s"),), 1)],
            (0, "t"): [((), (("say", "w", (0, 0)),), 0)],
            (1, "s"): [((("=", (0, 0), (-1, 9)),), (("say", "w", (0, 1)), ("call", "none")), 1), ((), (), 1)],
            (1, "t"): [],
            (2, "s"): [((), (), 2)],
            (2, "t"): [((), (), 0), ((), (), 2)],
        },
    )


class FlatRunTest(unittest.TestCase):
    def test_a_run_is_a_runner(self):
        self.assertIsInstance(FlatRun(by_hand()), Runner)

    def test_the_beginning(self):
        run = FlatRun(by_hand())
        self.assertEqual(run.story(), [("put", 0, 5, 6), ("in", 7), ("call", "t"), sign("t"), ("say", "w", 6)])
        self.assertEqual((run.fed(), run.flat(), run.moods(), run.numbers()), (0, 0, [], [6]))

    def test_feeds(self):
        run = FlatRun(by_hand())
        self.assertEqual(run.feed("s"), [sign("s"), ("put", 0, 6, 8), ("out", 4)])
        self.assertEqual((run.flat(), run.numbers()), (0, [8]))
        self.assertEqual(run.feed("t"), [sign("t"), ("say", "w", 8)])
        self.assertEqual(run.feed("s"), [sign("s"), ("put", 0, 8, 10), ("out", 4)])
        self.assertEqual(run.feed("s"), [sign("s"), ("call", "s"), sign("s")])
        self.assertEqual((run.flat(), run.moods(), run.numbers(), run.fed()), (1, [3, 9], [10], 4))

    def test_a_sign_that_the_table_has_not(self):
        run = FlatRun(by_hand())
        for name in ("u", "none", "zz"):
            self.assertEqual(run.feed(name), [sign(name)])
        self.assertEqual((run.flat(), run.fed()), (0, 3))

    def test_calls_and_the_rest(self):
        run = FlatRun(flattened(read("leaf m\n in call b\n in call a\n on a do call a then call b")))
        fitting = NestRun(read("leaf m\n in call b\n in call a\n on a do call a then call b"))
        self.assertEqual(run.story(), fitting.story())
        self.assertEqual(run.story()[-1], ("rest", 2))
        self.assertEqual(run.feed("a"), fitting.feed("a"))

    def test_back_and_no_step(self):
        run = FlatRun(by_hand())
        stands = []
        for name in ("s", "none", "s", "s", "t2"):
            stands.append((run.flat(), run.moods(), run.numbers(), run.fed(), run.story()))
            stands.append(run.feed(name))
        self.assertEqual(run.flat(), 1)
        while stands:
            self.assertEqual(run.back(), stands.pop())
            stand = stands.pop()
            self.assertEqual((run.flat(), run.moods(), run.numbers(), run.fed(), run.story()), stand)
        for _ in range(2):
            with self.assertRaises(NoStep):
                run.back()
            self.assertEqual((run.flat(), run.moods(), run.numbers(), run.fed(), run.story()), stand)
        self.assertEqual(run.feed("s"), [sign("s"), ("put", 0, 6, 8), ("out", 4)])

    def test_what_is_told_is_the_askers_own(self):
        table = by_hand()
        before = spelled_table(table)
        run = FlatRun(table)
        for _ in range(3):
            run.feed("s")
        run.feed("none")
        fitting = (run.story(), run.numbers(), run.moods(), run.flat())
        for spoilt in (run.story(), run.numbers(), run.moods(), run.feed("s"), run.back()):
            self.assertIs(type(spoilt), list)
            spoilt.append(77)
            spoilt[0] = 88
        self.assertEqual((run.story(), run.numbers(), run.moods(), run.flat()), fitting)
        self.assertEqual(spelled_table(table), before)

    def test_two_runs_of_one_table(self):
        table = by_hand()
        one, other, third = FlatRun(table), FlatRun(table), FlatRun(table)
        one.feed("s")
        self.assertEqual((other.story(), other.numbers()), (third.story(), third.numbers()))
        other.feed("s")
        one.back()
        self.assertEqual((other.fed(), one.fed()), (1, 0))
        self.assertEqual(one.story(), third.story())


class SameTest(unittest.TestCase):
    """[1]: the run of a chart and the run of its table tell the same."""

    def test_many_charts_feeds_and_steps_back(self):
        made = 0
        gone = {}
        for chart, table, draw in tables():
            made += 1
            before = (spelled(chart), spelled_table(table))
            one, other = NestRun(chart), FlatRun(table)
            for _ in range(25):
                self.assertEqual(one.story(), other.story())
                self.assertEqual(one.numbers(), other.numbers())
                self.assertEqual(one.moods(), other.moods())
                self.assertEqual(one.fed(), other.fed())
                self.assertEqual(table.flats[other.flat()], (tuple(one.state()[0]), tuple(one.state()[1])))
                if draw.random() < 0.25 and one.fed():
                    self.assertEqual(one.back(), other.back())
                else:
                    name = draw.choice(NAMES)
                    self.assertEqual(one.feed(name), other.feed(name))
            for row in one.story():
                gone[row[0]] = gone.get(row[0], 0) + 1
            while one.fed():
                self.assertEqual(one.back(), other.back())
            for run in (one, other):
                with self.assertRaises(NoStep):
                    run.back()
            self.assertEqual((one.story(), one.numbers(), one.moods()), (other.story(), other.numbers(), other.moods()))
            self.assertEqual((spelled(chart), spelled_table(table)), before)
        # The drawn charts are worth asking: every kind of row comes often.
        self.assertGreater(made, 350)
        for word in ("out", "keep", "way", "in", "put", "call", "say", "sign", "rest"):
            self.assertGreater(gone[word], 100, word)

    def test_an_order_of_moods_side_by_side(self):
        text = """box x 0
all m
 one n a
  leaf a
   out say w 1
   on s if x < 2 do put x x+1 to b
  leaf b
   in say w 2
   on s do call t to a
 one o c
  on t to d near
  leaf c
   on s if x = 1 and open b do put x 7
  leaf d
   on s to c"""
        one = NestRun(read(text))
        other = FlatRun(flattened(read(text)))
        for name in "sstssttsst":
            self.assertEqual(one.feed(name), other.feed(name))
            self.assertEqual((one.moods(), one.numbers()), (other.moods(), other.numbers()))


class UnnestedTest(unittest.TestCase):
    def test_a_chart_by_hand(self):
        table = by_hand()
        before = spelled_table(table)
        chart = unnested(table)
        self.assertEqual(chart.boxes, [("x", 5)])
        self.assertEqual(chart.names, ["flat", "f0", "f1", "f2"])
        self.assertEqual(chart.tree.kinds, ["one", "leaf", "leaf", "leaf"])
        self.assertEqual(chart.tree.elders, [-1, 0, 0, 0])
        self.assertEqual(chart.tree.starts, [1, -1, -1, -1])
        self.assertEqual(chart.ins, [(("put", 0, (0, 1)), ("call", "t")), (), (), ()])
        self.assertEqual(chart.outs, [(), (), (), ()])
        self.assertEqual(chart.ways, [
            (1, "s", (("<", (0, 0), (-1, 9)),), (("put", 0, (0, 2)),), 1, "new"),
            (1, "s", (), (("call", "s"),), 2, "new"),
            (1, "t", (), (("say", "w", (0, 0)),), 1, "new"),
            (2, "s", (("=", (0, 0), (-1, 9)),), (("say", "w", (0, 1)), ("call", "none")), 2, "new"),
            (3, "t", (), (), 1, "new"),
        ])
        self.assertIsNone(looked(chart))
        self.assertEqual(spelled_table(table), before)
        chart.boxes.append(("y", 1))
        chart.ways.clear()
        self.assertEqual(spelled_table(table), before)

    def test_kinds(self):
        chart = unnested(flattened(read("box x 0\none m n\n in call a\n leaf n\n  on s if x < 3 do call b to o\n leaf o")))
        for part in (chart.boxes, chart.names, chart.ins, chart.outs, chart.ways):
            self.assertIs(type(part), list)
        for part in chart.ins + chart.outs + chart.ways + [way[2] for way in chart.ways] + [way[3] for way in chart.ways]:
            self.assertIs(type(part), tuple)
        self.assertEqual(shown(read(shown(chart))), shown(chart))

    def ways(self, rows):
        """The ways of a table with two flats, whose flat 0 has these rows at the sign s."""
        table = Table([("x", 0)], ["s"], (), [((0,), ()), ((1,), ())], {(0, "s"): rows, (1, "s"): []})
        return unnested(table).ways

    def test_which_last_rows_are_left_out(self):
        ask = ("<", (0, 0), (-1, 3))
        kept = (1, "s", (ask,), (), 1, "new")
        for last, fitting in (
            (((), (), 0), []),
            (((), (("out", 1), ("way", 2), ("keep", 0, 1, 2), ("in", 1)), 0), []),
            (((), (), 1), [(1, "s", (), (), 2, "new")]),
            (((), (("call", "a"),), 0), [(1, "s", (), (("call", "a"),), 1, "new")]),
            (((ask,), (), 0), [kept]),
            (((), (("out", 0), ("say", "w", (-1, 0))), 0), [(1, "s", (), (("say", "w", (-1, 0)),), 1, "new")]),
        ):
            self.assertEqual(self.ways([last]), fitting)
            self.assertEqual(self.ways([((ask,), (), 0), last]), [kept] + fitting)
            self.assertEqual(self.ways([last, last]), [
                (1, "s", last[0], tuple(told(last[1])), last[2] + 1, "new")] + fitting)
        self.assertEqual(self.ways([]), [])
        self.assertEqual(self.ways([((), (), 0), ((ask,), (), 0)]), [(1, "s", (), (), 1, "new"), kept])

    def test_a_last_row_of_another_flat(self):
        table = Table([], ["s"], (), [((0,), ()), ((1,), ())], {(0, "s"): [((), (), 1)], (1, "s"): [((), (), 1)]})
        self.assertEqual(unnested(table).ways, [(1, "s", (), (), 2, "new")])

    def test_many_tables(self):
        for chart, table, draw in tables():
            before = spelled_table(table)
            back = unnested(table)
            self.assertIsNone(looked(back))
            self.assertEqual(spelled(read(shown(back))), spelled(back))
            one, other = FlatRun(table), NestRun(back)
            for _ in range(15):
                self.assertEqual(told(one.story()), told(other.story()))
                self.assertEqual(one.numbers(), other.numbers())
                self.assertEqual(other.moods(), [0, one.flat() + 1])
                if draw.random() < 0.25 and one.fed():
                    self.assertEqual(told(one.back()), told(other.back()))
                else:
                    name = draw.choice(NAMES)
                    self.assertEqual(told(one.feed(name)), told(other.feed(name)))
            self.assertEqual(spelled_table(table), before)


if __name__ == "__main__":
    unittest.main()
