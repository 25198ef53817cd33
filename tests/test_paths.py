"""Paths to moods and idle ways: point [50], with [44] and [4]."""

import random
import unittest

from helper import drawn_chart, drawn_table, spelled, spelled_table
from moodtree.errors import TooWide
from moodtree.flat import Table, flattened
from moodtree.nested import NestRun
from moodtree.paths import idle_ways, path_to
from moodtree.reading import read


def far_off(table):
    """For each flat that flat 0 leads to, how many rows on it is: found by going over all rows again and again."""
    found = {0: 0}
    for _ in table.flats:
        for (number, name), rows in table.rows.items():
            if name in table.signs and number in found:
                for row in rows:
                    found[row[2]] = min(found.get(row[2], 10 ** 9), found[number] + 1)
    return found


class PathTest(unittest.TestCase):
    def check(self, table, mood, many):
        """`many` tells how long the path is to be, or None."""
        before = spelled_table(table)
        answer = path_to(table, mood)
        self.assertEqual(spelled_table(table), before)
        if many is None:
            self.assertIsNone(answer)
            return
        self.assertIs(type(answer), list)
        self.assertEqual(len(answer), many)
        flat = 0
        for step in answer:
            self.assertIs(type(step), tuple)
            self.assertIn(step[0], table.signs)
            self.assertGreaterEqual(step[1], 0)
            flat = table.rows[(flat, step[0])][step[1]][2]
        self.assertIn(mood, table.flats[flat][0])
        answer.append(77)
        self.assertEqual(len(path_to(table, mood)), many)

    TEXT = """box x 0
one m n
 leaf n
  on s if x < 3
  on s if x = 5 to o
  on t do call s
 leaf o
  on t to p
  on s to n
 one p q
  leaf q
   on t to n
   on s if shut q to r
  leaf r
 leaf z
  on s to n"""
    # 0 m, 1 n, 2 o, 3 p, 4 q, 5 r, 6 z

    def test_paths_of_a_chart(self):
        table = flattened(read(self.TEXT))
        self.assertEqual(path_to(table, 0), [])
        self.assertEqual(path_to(table, 1), [])
        self.assertEqual(path_to(table, 2), [("s", 1)])
        self.assertEqual(path_to(table, 3), [("s", 1), ("t", 0)])
        self.assertEqual(path_to(table, 4), [("s", 1), ("t", 0)])
        self.assertIsNone(path_to(table, 5))
        self.assertIsNone(path_to(table, 6))

    def test_tables_made_by_hand(self):
        flats = [((0,), ()), ((0, 7), ()), ((1,), (-9, 4)), ((2, 7), ()), ((), ())]
        rows = {(number, name): [] for number in range(5) for name in "st"}
        rows[(0, "s")] = [((), (), 0), ((), (), 2), ((), (), 4)]
        rows[(2, "t")] = [((), (), 0), ((), (), 3)]
        rows[(1, "s")] = [((), (), 1)]
        table = Table([], ["s", "t"], (), flats, rows)
        self.assertEqual(path_to(table, 0), [])
        self.assertEqual(path_to(table, 1), [("s", 1)])
        self.assertEqual(path_to(table, 2), [("s", 1), ("t", 1)])
        # Flat 1 is nearer by its number, but nothing leads to it.
        self.assertEqual(path_to(table, 7), [("s", 1), ("t", 1)])
        for mood in (3, 8, 100):
            self.assertIsNone(path_to(table, mood))

    def test_the_shortest_of_several(self):
        rows = {(number, "s"): [((), (), number + 1)] for number in range(5)}
        rows[(5, "s")] = [((), (), 0)]
        flats = [((number,), ()) for number in range(6)]
        for number in range(6):
            rows[(number, "t")] = []
        table = Table([], ["s", "t"], (), flats, rows)
        self.assertEqual(path_to(table, 5), [("s", 0)] * 5)
        rows[(1, "t")] = [((), (), 5)]
        table = Table([], ["s", "t"], (), flats, rows)
        self.assertEqual(path_to(table, 5), [("s", 0), ("t", 0)])

    def test_the_table_as_it_is_when_it_is_asked(self):
        table = flattened(read(self.TEXT))
        table.rows[(0, "t")].append(((), (), 2))
        self.assertEqual(path_to(table, 3), [("t", 1)])
        table.rows[(0, "t")].clear()
        table.rows[(0, "s")].clear()
        self.assertIsNone(path_to(table, 3))
        table.flats[0] = ((0, 3), ())
        self.assertEqual(path_to(table, 3), [])

    def test_many_tables(self):
        for seed in range(300):
            table = drawn_table(seed)
            far = far_off(table)
            for mood in range(9):
                ends = [far[number] for number in far if mood in table.flats[number][0]]
                self.check(table, mood, min(ends, default=None))

    def test_no_run_opens_a_mood_without_a_path_or_goes_an_idle_way(self):
        shut = 0
        idle = 0
        for seed in range(200):
            chart = drawn_chart(f"paths {seed}", 10, 8, ("a", "b"), (0, 1, 2))
            try:
                table = flattened(chart, 100)
            except TooWide:
                continue
            far = far_off(table)
            before = spelled(chart)
            for mood in range(len(chart.names)):
                ends = [far[number] for number in far if mood in table.flats[number][0]]
                self.check(table, mood, min(ends, default=None))
            nowhere = [mood for mood in range(len(chart.names)) if path_to(table, mood) is None]
            ways = idle_ways(chart, table)
            self.assertEqual(spelled(chart), before)
            shut += len(nowhere)
            idle += len(ways)
            draw = random.Random(f"paths {seed}")
            run = NestRun(chart)
            for _ in range(15):
                run.feed(draw.choice("ab"))
                self.assertFalse(set(run.moods()) & set(nowhere))
            self.assertFalse({row[1] for row in run.story() if row[0] == "way"} & set(ways))
        self.assertGreater(shut, 100)
        self.assertGreater(idle, 100)


class IdleTest(unittest.TestCase):
    def check(self, text, fitting):
        chart = read(text)
        table = flattened(chart)
        before = (spelled(chart), spelled_table(table))
        answer = idle_ways(chart, table)
        self.assertIs(type(answer), list)
        self.assertEqual(answer, fitting)
        answer.append(77)
        self.assertEqual(idle_ways(chart, table), fitting)
        self.assertEqual((spelled(chart), spelled_table(table)), before)

    def test_ways(self):
        self.check("leaf m", [])
        self.check("leaf m\n on s", [])
        self.check("leaf m\n on s\n on s", [1])
        self.check("leaf m\n on s if shut m\n on s", [0])
        # Whether numbers can meet an ask is not looked at.
        self.check("leaf m\n on s if 1 < 0\n on s", [])
        self.check(PathTest.TEXT, [6, 7])

    def test_ways_that_are_not_kept(self):
        self.check("all m\n one n a\n  leaf a\n   on s to b\n  leaf b\n   on s to a\n leaf c\n  on s to m", [2])
        self.check("one r m\n all m\n  on s to m\n  one n a\n   leaf a\n    on s to a\n  leaf c", [0])

    def test_ways_of_moods_that_never_open(self):
        self.check("one m n\n on t to n\n leaf n\n leaf o\n  on s\n  on t", [1, 2])

    def test_all_and_none(self):
        self.check("one m n\n leaf n\n leaf o\n  on s\n  on t\n  on u to n", [0, 1, 2])
        self.check("one m n\n leaf n\n  on s to o\n leaf o\n  on s to n", [])


if __name__ == "__main__":
    unittest.main()
