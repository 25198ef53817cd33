"""Branches and tables: points [42] to [44], and [4] of what is handed in and told."""

import random
import time
import unittest

from helper import drawn_chart, spelled, spelled_table
from moodtree.asking import branches
from moodtree.chart import signs
from moodtree.choosing import goable, kept, number_asks, picks
from moodtree.errors import TooWide
from moodtree.flat import Table, flattened
from moodtree.moving import begun, moved
from moodtree.opening import opened
from moodtree.reading import read
from moodtree.sums import all_hold

LESS = ("<", (0, 0), (-1, 3))
SAME = ("=", (0, 0), (-1, 5))
OTHER = ("!=", (1, 0), (-1, 0))


def branches_of(chart, opens, sign):
    """The branches by the words of [42], by recursion: far too long where there are many."""
    leaves = [mood for mood in opens if chart.tree.kinds[mood] == "leaf"]

    def walk(leaves, ways, asks, chosen, held):
        if ways is None:
            if not leaves:
                return [(asks, chosen)]
            return walk(leaves[1:], goable(chart, opens, leaves[0], sign), asks, chosen, held)
        if not ways:
            return walk(leaves, None, asks, chosen, held)
        way = ways[0]
        with_way = chosen if way in chosen else chosen + (way,)
        if not number_asks(chart, way) or held.get(way):
            return walk(leaves, None, asks, with_way, held)
        if way in held:
            return walk(leaves, ways[1:], asks, chosen, held)
        return (walk(leaves, None, asks + number_asks(chart, way), with_way, {**held, way: True})
                + walk(leaves, ways[1:], asks, chosen, {**held, way: False}))

    return walk(leaves, None, (), (), {})


def many_leaves(many, row):
    """A text of an all with leaves, each with a row of its own."""
    return "box x 0\nbox y 0\nall m\n" + "\n".join(f" leaf n{place}\n  {row}" for place in range(many))


class BranchesTest(unittest.TestCase):
    def check(self, text, sign, fitting, opens=None):
        chart = read(text)
        before = spelled(chart)
        opens = opens or begun(chart)[1]
        for most in (len(fitting), len(fitting) + 1, 1000):
            handed = list(opens)
            told = branches(chart, handed, sign, most)
            self.assertEqual(told, fitting)
            self.assertIs(type(told), list)
            for part in told:
                self.assertEqual([type(part), type(part[0]), type(part[1])], [tuple] * 3)
            told.append(77)
            self.assertEqual(branches(chart, handed, sign, most), fitting)
            self.assertEqual(handed, opens)
        for most in range(len(fitting)):
            with self.assertRaises(TooWide):
                branches(chart, opens, sign, most)
        self.assertEqual(branches_of(chart, opens, sign), fitting)
        self.assertEqual(spelled(chart), before)

    def test_no_way(self):
        self.check("leaf m", "s", [((), ())])
        self.check("leaf m\n on t", "s", [((), ())])
        self.check("leaf m\n on s if shut m", "s", [((), ())])

    def test_a_way_without_asks_of_numbers(self):
        self.check("leaf m\n on s", "s", [((), (0,))])
        self.check("leaf m\n on s if open m\n on s", "s", [((), (0,))])
        self.check("leaf m\n on s if shut m\n on s", "s", [((), (1,))])

    def test_ways_with_asks_of_numbers_at_one_leaf(self):
        self.check("box x 0\nleaf m\n on s if x < 3", "s", [((LESS,), (0,)), ((), ())])
        self.check("box x 0\nleaf m\n on s if x < 3\n on s", "s", [((LESS,), (0,)), ((), (1,))])
        self.check("box x 0\nleaf m\n on s\n on s if x < 3", "s", [((), (0,))])
        self.check("box x 0\nbox y 0\nleaf m\n on s if x < 3 and open m and y != 0\n on s if x = 5\n on s if shut m", "s",
                   [((LESS, OTHER), (0,)), ((SAME,), (1,)), ((), ())])

    def test_ways_of_elders_behind_those_of_the_leaf(self):
        self.check("box x 0\none m n\n on s if x = 5\n on s\n leaf n\n  on s if x < 3", "s",
                   [((LESS,), (2,)), ((SAME,), (0,)), ((), (1,))])

    def test_ways_at_several_leaves(self):
        self.check("box x 0\nall m\n leaf n\n  on s if x < 3\n leaf o\n  on s if x = 5", "s",
                   [((LESS, SAME), (0, 1)), ((LESS,), (0,)), ((SAME,), (1,)), ((), ())])
        self.check("box x 0\nall m\n leaf n\n  on s if x < 3\n  on s\n leaf o\n leaf p\n  on s if x = 5", "s",
                   [((LESS, SAME), (0, 2)), ((LESS,), (0,)), ((SAME,), (1, 2)), ((), (1,))])

    def test_the_same_way_met_by_two_leaves(self):
        self.check("box x 0\nall m\n on s if x < 3\n leaf n\n leaf o", "s", [((LESS,), (0,)), ((), ())])
        self.check("box x 0\nall m\n on s if x < 3\n on s\n leaf n\n leaf o\n leaf p", "s", [((LESS,), (0,)), ((), (1,))])
        self.check("box x 0\nall m\n on s if x < 3\n on s if x = 5\n leaf n\n leaf o\n  on s if 1 < x", "s",
                   [((LESS, ("<", (-1, 1), (0, 0))), (0, 2)), ((LESS,), (0,)),
                    ((SAME, ("<", (-1, 1), (0, 0))), (1, 2)), ((SAME,), (1,)),
                    ((("<", (-1, 1), (0, 0)),), (2,)), ((), ())])

    def test_two_ways_with_the_same_ask_are_two_ways(self):
        self.check("box x 0\nall m\n leaf n\n  on s if x < 3\n leaf o\n  on s if x < 3", "s",
                   [((LESS, LESS), (0, 1)), ((LESS,), (0,)), ((LESS,), (1,)), ((), ())])

    def test_picks_in_the_order_of_the_leaves_each_once(self):
        self.check("all m\n on s\n leaf n\n  on s\n leaf o\n leaf p", "s", [((), (1, 0))])

    def test_open_and_shut_asks_go_by_the_open_moods(self):
        text = "box x 0\none m n\n on s if open n and x < 3\n on s if shut n and x = 5\n leaf n\n leaf o"
        self.check(text, "s", [((LESS,), (0,)), ((), ())], [0, 1])
        self.check(text, "s", [((SAME,), (1,)), ((), ())], [0, 2])

    def test_found_out_soon(self):
        chart = read(many_leaves(60, "on s if x < 3"))
        began = time.process_time()
        for most in (0, 1, 40, 1600):
            with self.assertRaises(TooWide):
                branches(chart, begun(chart)[1], "s", most)
        chart = read(many_leaves(1, "\n  ".join(["on s if x < 3"] * 700)))
        self.assertEqual(len(branches(chart, [0, 1], "s", 701)), 701)
        with self.assertRaises(TooWide):
            branches(chart, [0, 1], "s", 700)
        self.assertLess(time.process_time() - began, 20)

    def test_many_leaves_and_one_branch(self):
        chart = read(many_leaves(700, "on s"))
        self.assertEqual(branches(chart, begun(chart)[1], "s", 1), [((), tuple(range(700)))])

    def test_many_charts(self):
        for seed in range(300):
            chart = drawn_chart(seed, 14, 9, ("a", "b"), (0, 1, 2))
            draw = random.Random(f"branches {seed}")
            opens = opened(chart.tree, [-1] * len(chart.names), 0, "new")
            for sign in ("a", "b"):
                fitting = branches_of(chart, opens, sign)
                told = branches(chart, opens, sign, len(fitting))
                self.assertEqual(told, fitting)
                for _ in range(10):
                    boxes = [draw.randint(-1, 3) for _ in chart.boxes]
                    first = [chosen for asks, chosen in told if all_hold(asks, boxes)][0]
                    self.assertEqual(list(first), picks(chart, opens, boxes, sign))


class TableTest(unittest.TestCase):
    def parts(self):
        rows = {(0, "s"): [((), (("in", 0),), 1)], (1, "s"): []}
        return [[("x", 1)], ["s"], (("in", 0),), [((0,), (-1,)), ((0, 1), (-1,))], rows]

    def test_fields_are_as_handed_in(self):
        table = Table(*self.parts())
        told = [table.boxes, table.signs, table.begin, table.flats, table.rows]
        self.assertEqual(told, self.parts())
        self.assertEqual([type(part) for part in told], [list, list, tuple, list, dict])
        boxes, names, begin, flats, rows = self.parts()
        other = Table(rows=rows, flats=flats, begin=begin, signs=names, boxes=boxes)
        self.assertEqual(spelled_table(other), spelled_table(table))

    def test_lists_and_dict_are_its_own(self):
        parts = self.parts()
        table = Table(*parts)
        before = spelled_table(table)
        parts[0].append(("y", 1))
        parts[1].append("t")
        parts[3].pop()
        parts[4][(0, "s")].append(((), (), 0))
        parts[4][(1, "s")].append(((), (), 0))
        parts[4][(2, "s")] = []
        self.assertEqual(spelled_table(table), before)

    def test_a_tables_changes_stay_its_own(self):
        parts = self.parts()
        table = Table(*parts)
        table.boxes.clear()
        table.signs.clear()
        table.flats.clear()
        table.rows[(0, "s")].clear()
        table.rows.pop((1, "s"))
        self.assertEqual(parts, self.parts())


TEXT = """box x 0
one m n
 in put x 1
 on s if x < 3 and open n do put x x+1 to o
 on t to n near
 one n p
  leaf p
   in call a
   on t to q
  leaf q
 leaf o
  out say w x
  on s if x = 5 do call t to q
  on s if shut n"""
# Moods: 0 m, 1 n, 2 p, 3 q, 4 o. Ways: 0 m s, 1 m t near, 2 p t, 3 and 4 o s.


class FlattenedTest(unittest.TestCase):
    def test_a_table_by_hand(self):
        chart = read(TEXT)
        before = spelled(chart)
        table = flattened(chart)
        put = ("put", 0, (0, 1))
        call = ("call", "a")
        say = ("say", "w", (0, 0))
        self.assertEqual(table.boxes, [("x", 0)])
        self.assertEqual(table.signs, ["s", "t"])
        self.assertEqual(table.begin, (("in", 0), ("put", 0, (-1, 1)), ("in", 1), ("in", 2), call))
        flats = [
            ((0, 1, 2), (-1, -1, -1, -1, -1)),
            ((0, 4), (-1, 2, -1, -1, -1)),
            ((0, 1, 3), (-1, -1, -1, -1, -1)),
            ((0, 1, 3), (-1, 2, -1, -1, -1)),
            ((0, 1, 2), (-1, 2, -1, -1, -1)),
            ((0, 4), (-1, 3, -1, -1, -1)),
            ((0, 1, 3), (-1, 3, -1, -1, -1)),
        ]
        self.assertEqual(table.flats, flats)
        root_in = (("in", 0), ("put", 0, (-1, 1)))
        self.assertEqual(table.rows[(0, "s")], [
            ((LESS,), (("out", 2), ("out", 1), ("keep", 1, -1, 2), ("out", 0), ("way", 0), put) + root_in + (("in", 4),), 1),
            ((), (), 0),
        ])
        self.assertEqual(table.rows[(0, "t")], [((), (("out", 2), ("way", 2), ("in", 3)), 2)])
        self.assertEqual(table.rows[(1, "s")], [
            ((SAME,), (("out", 4), say, ("way", 3), ("call", "t"), ("in", 1), ("in", 3)), 3),
            ((), (("way", 4),), 1),
        ])
        self.assertEqual(table.rows[(1, "t")], [
            ((), (("out", 4), say, ("out", 0), ("way", 1)) + root_in + (("in", 1), ("in", 2), call), 4),
        ])
        self.assertEqual(table.rows[(2, "t")], [
            ((), (("out", 3), ("out", 1), ("keep", 1, -1, 3), ("out", 0), ("way", 1)) + root_in + (("in", 1), ("in", 3)), 6),
        ])
        self.assertEqual(sorted(table.rows), [(number, sign) for number in range(7) for sign in ("s", "t")])
        self.assertEqual(spelled(chart), before)
        self.assertEqual(spelled_table(flattened(chart)), spelled_table(table))

    def test_kinds(self):
        table = flattened(read(TEXT))
        self.assertEqual([type(part) for part in (table.boxes, table.signs, table.begin, table.flats, table.rows)],
                         [list, list, tuple, list, dict])
        for flat in table.flats:
            self.assertEqual([type(flat), type(flat[0]), type(flat[1])], [tuple] * 3)
        for rows in table.rows.values():
            self.assertIs(type(rows), list)
            for row in rows:
                self.assertEqual([type(row), type(row[0]), type(row[1]), type(row[2])], [tuple, tuple, tuple, int])

    def test_what_is_told_is_the_askers_own(self):
        chart = read(TEXT)
        before = spelled(chart)
        table = flattened(chart)
        fitting = spelled_table(table)
        table.boxes.append(("y", 1))
        table.signs.append("z")
        table.flats.pop()
        table.rows[(0, "s")].pop()
        self.assertEqual(spelled(chart), before)
        self.assertEqual(spelled_table(flattened(chart)), fitting)

    def test_a_chart_without_ways(self):
        table = flattened(read("box x 3\nall m\n in call a\n leaf n"), 1)
        self.assertEqual((table.boxes, table.signs, table.flats, table.rows), ([("x", 3)], [], [((0, 1), (-1, -1))], {}))
        self.assertEqual(table.begin, (("in", 0), ("call", "a"), ("in", 1)))

    def test_signs_called_at_the_beginning_lead_out_of_flat_0(self):
        table = flattened(read("one m n\n leaf n\n  in call a\n  on a to o\n leaf o"))
        self.assertEqual(table.flats, [((0, 1), (-1, -1, -1)), ((0, 2), (-1, -1, -1))])

    def test_many_charts_by_the_words_of_the_point(self):
        made = 0
        for seed in range(250):
            chart = drawn_chart(seed, 10, 8, ("a", "b"), (0, 1, 2))
            try:
                table = flattened(chart, 40)
            except TooWide:
                continue
            made += 1
            script, opens, memory = begun(chart)
            flats, rows, at = [(tuple(opens), tuple(memory))], {}, 0
            while at < len(flats):
                opens, memory = list(flats[at][0]), list(flats[at][1])
                for sign in signs(chart):
                    rows[(at, sign)] = []
                    for asks, chosen in branches(chart, opens, sign, 1000):
                        move, opens_behind, memory_behind = moved(chart, opens, memory, kept(chart, list(chosen)))
                        flat = (tuple(opens_behind), tuple(memory_behind))
                        if flat not in flats:
                            flats.append(flat)
                        rows[(at, sign)].append((asks, tuple(move), flats.index(flat)))
                at += 1
            fitting = Table(chart.boxes, signs(chart), script, flats, rows)
            self.assertEqual(spelled_table(table), spelled_table(fitting))
        self.assertGreater(made, 200)


def ring(many):
    """A text of a one with leaves, each leading to the next one: so many flats, and as many rows."""
    rows = [f" leaf n{place}\n  on s to n{(place + 1) % many}" for place in range(many)]
    return "one m n0\n" + "\n".join(rows)


class WideTest(unittest.TestCase):
    def test_just_as_many_flats_and_one_more(self):
        for many in (1, 2, 7, 60, 199, 200):
            self.assertEqual(len(flattened(read(ring(many)), many).flats), many)
        for many in (2, 3, 8, 61, 200, 201):
            with self.assertRaises(TooWide):
                flattened(read(ring(many)), many - 1)

    def test_the_bound_of_60_where_none_is_told(self):
        self.assertEqual(len(flattened(read(ring(60))).flats), 60)
        with self.assertRaises(TooWide):
            flattened(read(ring(61)))

    def test_just_eight_times_as_many_rows_and_one_more(self):
        for most in (1, 2, 5, 60):
            for rows, fits in ((8 * most - 1, True), (8 * most, True), (8 * most + 1, False)):
                # One leaf and one sign: a row for each way, and the last one where none holds.
                text = "box x 0\nleaf m\n" + "\n".join([" on s if x < 3"] * (rows - 1))
                chart = read(text)
                if fits:
                    self.assertEqual(len(flattened(chart, most).rows[(0, "s")]), rows)
                else:
                    with self.assertRaises(TooWide):
                        flattened(chart, most)

    def test_rows_of_several_signs_and_flats_are_counted_together(self):
        for signs_many, fits in ((8, True), (9, False)):
            text = "leaf m\n" + "\n".join(f" on s{place}" for place in range(signs_many))
            if fits:
                self.assertEqual(len(flattened(read(text), 1).rows), 8)
            else:
                with self.assertRaises(TooWide):
                    flattened(read(text), 1)
        for more, fits in (("", True), (" on u", False)):
            # Two flats with eight signs each, or nine.
            ways = "\n".join(f" on s{place}" for place in range(7))
            text = f"one m n\n{ways}\n{more}\n leaf n\n  on t to o\n leaf o".replace("\n\n", "\n")
            if fits:
                self.assertEqual(len(flattened(read(text), 2).flats), 2)
            else:
                with self.assertRaises(TooWide):
                    flattened(read(text), 2)

    def test_found_out_soon(self):
        began = time.process_time()
        for text in (
            # A flat for each choice of thirty leaves; a branch for each choice of forty asks.
            "all m\n" + "\n".join(f" one n{k} a{k}\n  leaf a{k}\n   on s{k} to b{k}\n  leaf b{k}" for k in range(30)),
            many_leaves(40, "on s if x < 3"),
            "box x 0\nall m\n" + "\n".join(
                f" one n{k} a{k}\n  leaf a{k}\n   on s if x = {k} to b{k}\n  leaf b{k}\n   on s to a{k}" for k in range(30)),
        ):
            for most in (1, 60, 200):
                with self.assertRaises(TooWide):
                    flattened(read(text), most)
        self.assertLess(time.process_time() - began, 60)


if __name__ == "__main__":
    unittest.main()
