"""Moves and the beginning as scripts: points [33] to [35], and [4] of what is handed in and told."""

import random
import unittest

from helper import ONE, chain, chart_of, drawn_chart, spelled, trees
from moodtree.choosing import has_target, kept, way_top
from moodtree.moving import begun, heeded, moved
from moodtree.opening import entered, is_whole, left, opened
from moodtree.reading import read
from moodtree.tree import within

CHART = """box x 0
one top pair
 out say tout 0
 all pair
  in say pin 0
  out say pout 0
  out say pout 1
  on jump to rest
  one left a
   in say lin 0
   out say lout 0
   leaf a
    out put x x+1
    on go do put x x+10 then call more to b
    on stay do say here x
   leaf b
    in say bin x
    on go to a
  one right c
   leaf c
    on go do put x x+100 to d
    on stay
   leaf d
 leaf rest
  in say rin 0
  on home to pair
  on closer to left near
  on farther to pair far
  on again do call more to top"""
# Moods: 0 top, 1 pair, 2 left, 3 a, 4 b, 5 right, 6 c, 7 d, 8 rest.
# Ways: 0 pair jump; 1 a go, 2 a stay, 3 b go; 4 c go, 5 c stay; 6 rest home, 7 closer, 8 farther, 9 again.
NONE = [-1] * 9


def say(word, number=0):
    return ("say", word, (-1, number))


ADD = {1: ("put", 0, (0, 1)), 10: ("put", 0, (0, 10)), 100: ("put", 0, (0, 100))}


class HeededTest(unittest.TestCase):
    def check(self, text, moods):
        chart = read(text)
        before = spelled(chart)
        told = [heeded(chart, mood) for mood in range(len(chart.names))]
        self.assertEqual(told, [mood in moods for mood in range(len(chart.names))])
        self.assertTrue(all(type(part) is bool for part in told))
        self.assertEqual(spelled(chart), before)

    def test_targets_near_and_far_and_what_lies_within(self):
        self.check(CHART, [2, 5])
        tree = "one m0 m1\n{}\n one m1 m2\n  one m2 m3\n   leaf m3\n one m4 m5\n  all m5\n   one m6 m7\n    leaf m7"
        for way, moods in (
            ("on s to m1", []),
            ("on s to m1 near", [1]),
            ("on s to m2 near", [2]),
            ("on s to m0 near", [0]),
            ("on s to m3 near", []),
            ("on s to m3 far", []),
            ("on s to m5 near", []),
            ("on s to m5 far", [6]),
            ("on s to m4 far", [4, 6]),
            ("on s to m4 near", [4]),
            ("on s to m6 far", [6]),
            ("on s to m1 far", [1, 2]),
            ("on s to m0 far", [0, 1, 2, 4, 6]),
            ("on s", []),
        ):
            self.check(tree.format(" " + way), moods)
        self.check(tree.format(" on s to m2 near\n on t to m4 far\n on u to m1"), [2, 4, 6])

    def test_of_each_kind_of_mood(self):
        self.check("all m\n on s to m far\n leaf n\n one o p\n  leaf p", [2])
        self.check("leaf m\n on s to m near", [])
        self.check("all m\n on s to m near\n leaf n", [])

    def test_a_way_from_anywhere_and_in_any_place(self):
        self.check("one m n\n leaf n\n leaf o\n  on a\n  on s to n\n  on s to m near", [0])
        self.check("one m n\n on s to m far\n leaf n\n leaf o\n  on a to o\n  on s", [0])


class MovedTest(unittest.TestCase):
    def setUp(self):
        self.chart = read(CHART)

    def check(self, opens, memory, ways, script, opens_behind, memory_behind):
        before = spelled(self.chart)
        handed = (list(opens), list(memory), list(ways))
        told = moved(self.chart, *handed)
        self.assertIs(type(told), tuple)
        self.assertEqual([type(part) for part in told], [list] * 3)
        self.assertEqual(told, (script, opens_behind, memory_behind))
        for part in told:
            part.append(77)
        self.assertEqual(handed, (opens, memory, ways))
        self.assertEqual(moved(self.chart, *handed), (script, opens_behind, memory_behind))
        self.assertEqual(spelled(self.chart), before)

    def test_no_way(self):
        for opens, memory in (([0, 8], NONE), ([0, 1, 2, 3, 5, 7], [-1, -1, 4, -1, -1, 6, -1, -1, -1])):
            self.check(opens, memory, [], [], opens, memory)

    def test_ways_that_stay(self):
        opens = [0, 1, 2, 3, 5, 6]
        self.check(opens, NONE, [2], [("way", 2), ("say", "here", (0, 0))], opens, NONE)
        self.check(opens, NONE, [5], [("way", 5)], opens, NONE)
        self.check(opens, NONE, [2, 5], [("way", 2), ("say", "here", (0, 0)), ("way", 5)], opens, NONE)

    def test_one_way(self):
        self.check(
            [0, 1, 2, 3, 5, 6], NONE, [1],
            [("out", 3), ADD[1], ("way", 1), ADD[10], ("call", "more"), ("in", 4), ("say", "bin", (0, 0))],
            [0, 1, 2, 4, 5, 6], NONE,
        )

    def test_several_ways_side_by_side(self):
        self.check(
            [0, 1, 2, 3, 5, 6], NONE, [1, 4],
            [("out", 6), ("out", 3), ADD[1], ("way", 1), ADD[10], ("call", "more"), ("way", 4), ADD[100],
             ("in", 4), ("say", "bin", (0, 0)), ("in", 7)],
            [0, 1, 2, 4, 5, 7], NONE,
        )

    def test_ways_that_stay_among_them(self):
        self.check(
            [0, 1, 2, 3, 5, 6], NONE, [2, 4],
            [("out", 6), ("way", 2), ("say", "here", (0, 0)), ("way", 4), ADD[100], ("in", 7)],
            [0, 1, 2, 3, 5, 7], NONE,
        )
        self.check(
            [0, 1, 2, 3, 5, 6], NONE, [0, 2, 5],
            [("out", 6), ("out", 5), ("keep", 5, -1, 6), ("out", 3), ADD[1], ("out", 2), ("keep", 2, -1, 3), say("lout"),
             ("out", 1), say("pout"), say("pout", 1), ("way", 0), ("way", 2), ("say", "here", (0, 0)), ("way", 5),
             ("in", 8), say("rin")],
            [0, 8], [-1, -1, 3, -1, -1, 6, -1, -1, -1],
        )

    def test_keep_stands_behind_out_and_ahead_of_the_deeds(self):
        memory = [-1, -1, 3, -1, -1, 6, -1, -1, -1]
        self.check(
            [0, 1, 2, 4, 5, 6], memory, [0],
            [("out", 6), ("out", 5), ("keep", 5, 6, 6), ("out", 4), ("out", 2), ("keep", 2, 3, 4), say("lout"),
             ("out", 1), say("pout"), say("pout", 1), ("way", 0), ("in", 8), say("rin")],
            [0, 8], [-1, -1, 4, -1, -1, 6, -1, -1, -1],
        )

    def test_entered_by_the_memory(self):
        memory = [-1, -1, 4, -1, -1, 7, -1, -1, -1]
        leaving = [("out", 8)]
        left_in = [("in", 2), say("lin")]
        pair_in = [("in", 1), say("pin")]
        entering_b = [("in", 4), ("say", "bin", (0, 0))]
        self.check([0, 8], memory, [6], leaving + [("way", 6)] + pair_in + left_in + [("in", 3), ("in", 5), ("in", 6)],
                   [0, 1, 2, 3, 5, 6], memory)
        self.check([0, 8], memory, [7], leaving + [("way", 7)] + pair_in + left_in + entering_b + [("in", 5), ("in", 6)],
                   [0, 1, 2, 4, 5, 6], memory)
        self.check([0, 8], memory, [8], leaving + [("way", 8)] + pair_in + left_in + entering_b + [("in", 5), ("in", 7)],
                   [0, 1, 2, 4, 5, 7], memory)

    def test_a_top_of_none_leaves_the_root(self):
        self.check(
            [0, 8], NONE, [9],
            [("out", 8), ("out", 0), say("tout"), ("way", 9), ("call", "more"), ("in", 0), ("in", 1), say("pin"),
             ("in", 2), say("lin"), ("in", 3), ("in", 5), ("in", 6)],
            [0, 1, 2, 3, 5, 6], NONE,
        )

    def test_the_memory_behind_the_leaving_is_entered_by(self):
        chart = read("one m n\n on s to m near\n on t to m far\n one n o\n  leaf o\n  leaf p\n leaf q")
        none = [-1] * 5
        self.assertEqual(moved(chart, [0, 4], none, [0]), (
            [("out", 4), ("out", 0), ("keep", 0, -1, 4), ("way", 0), ("in", 0), ("in", 4)],
            [0, 4], [4, -1, -1, -1, -1]))
        self.assertEqual(moved(chart, [0, 1, 3], none, [0]), (
            [("out", 3), ("out", 1), ("keep", 1, -1, 3), ("out", 0), ("keep", 0, -1, 1), ("way", 0),
             ("in", 0), ("in", 1), ("in", 2)],
            [0, 1, 2], [1, 3, -1, -1, -1]))
        self.assertEqual(moved(chart, [0, 1, 3], none, [1])[1], [0, 1, 3])

    def test_only_heeded_moods_remember(self):
        chart = read("one m n\n one n o\n  leaf o\n   on a to p\n   on s to q\n  leaf p\n   on s to q\n leaf q\n  on s to n")
        self.assertEqual(moved(chart, [0, 1, 3], [-1] * 5, [2]), (
            [("out", 3), ("out", 1), ("way", 2), ("in", 4)], [0, 4], [-1] * 5))

    def test_a_way_whose_source_is_left_by_another_one(self):
        # The way of the leaf stays, and its leaf is left by the other leaf's way.
        chart = read("one r m\n all m\n  leaf n\n   on s do call a to q\n  leaf o\n   out call c\n   on s do call b\n leaf q")
        self.assertEqual(moved(chart, [0, 1, 2, 3], [-1] * 5, [0, 1])[0], [
            ("out", 3), ("call", "c"), ("out", 2), ("out", 1), ("way", 0), ("call", "a"), ("way", 1), ("call", "b"), ("in", 4),
        ])


class BegunTest(unittest.TestCase):
    def check(self, chart, script, opens):
        before = spelled(chart)
        memory = [-1] * len(chart.names)
        told = begun(chart)
        self.assertIs(type(told), tuple)
        self.assertEqual([type(part) for part in told], [list] * 3)
        self.assertEqual(told, (script, opens, memory))
        for part in told:
            part.append(77)
        self.assertEqual(begun(chart), (script, opens, memory))
        self.assertEqual(spelled(chart), before)

    def test_beginnings(self):
        self.check(read("leaf m"), [("in", 0)], [0])
        self.check(read("leaf m\n in call a\n in say w 1"), [("in", 0), ("call", "a"), say("w", 1)], [0])
        self.check(read("leaf m\n out call a\n on s to m"), [("in", 0)], [0])
        self.check(read(CHART), [("in", 0), ("in", 1), say("pin"), ("in", 2), say("lin"), ("in", 3), ("in", 5), ("in", 6)],
                   [0, 1, 2, 3, 5, 6])
        self.check(read("one m o\n leaf n\n leaf o"), [("in", 0), ("in", 2)], [0, 2])
        self.check(chart_of(chain(13)), [("in", mood) for mood in range(13)], list(range(13)))

    def test_of_many_trees(self):
        for tree in trees():
            opens = opened(tree, [-1] * len(tree.kinds), 0, "new")
            self.check(chart_of(tree), [("in", mood) for mood in opens], opens)


class ManyMovesTest(unittest.TestCase):
    def test_against_the_words_of_the_points(self):
        for seed in range(300):
            chart = drawn_chart(seed, 14, 10)
            draw = random.Random(f"moves {seed}")
            opens, memory = begun(chart)[1:]
            for _ in range(8):
                ways = kept(chart, [way for way in range(len(chart.ways))
                                    if chart.ways[way][0] in opens and draw.random() < 0.7])
                script, opens_behind, memory_behind = moved(chart, opens, memory, ways)
                self.assertEqual(script, self.script(chart, opens, memory, ways, memory_behind))
                self.assertIs(is_whole(chart.tree, opens_behind), True)
                outs = [row[1] for row in script if row[0] == "out"]
                ins = [row[1] for row in script if row[0] == "in"]
                self.assertEqual(opens_behind, sorted(set(opens) - set(outs) | set(ins)))
                self.assertEqual(outs, sorted(set(outs), reverse=True))
                self.assertEqual(ins, sorted(set(ins)))
                self.memory_fits(chart, opens, memory, outs, memory_behind)
                opens, memory = opens_behind, memory_behind

    def memory_fits(self, chart, opens, memory, outs, behind):
        for mood in range(len(chart.names)):
            if mood in outs and chart.tree.kinds[mood] == ONE and self.is_heeded(chart, mood):
                inside = [place for place in opens if chart.tree.elders[place] == mood]
                self.assertEqual([behind[mood]], inside)
            else:
                self.assertEqual(behind[mood], memory[mood])

    def is_heeded(self, chart, mood):
        near = [way[4] for way in chart.ways if way[5] == "near"]
        far = [way[4] for way in chart.ways if way[5] == "far"]
        return mood in near + far or any(within(chart.tree, mood, target) for target in far)

    def script(self, chart, opens, memory, ways, behind):
        rows = []
        for mood in sorted(range(len(chart.names)), reverse=True):
            for way in ways:
                if has_target(chart, way) and mood in left(chart.tree, opens, way_top(chart, way)):
                    rows += [("out", mood)]
                    if chart.tree.kinds[mood] == ONE and self.is_heeded(chart, mood):
                        rows += [("keep", mood, memory[mood], behind[mood])]
                    rows += list(chart.outs[mood])
        for way in ways:
            rows += [("way", way)] + list(chart.ways[way][3])
        for mood in range(len(chart.names)):
            for way in ways:
                if has_target(chart, way):
                    target, mode = chart.ways[way][4:]
                    if mood in entered(chart.tree, behind, way_top(chart, way), target, mode):
                        rows += [("in", mood)] + list(chart.ins[mood])
        return rows


if __name__ == "__main__":
    unittest.main()
