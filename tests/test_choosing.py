"""Which ways go: points [29] to [32], and [4] of what is handed in and told."""

import itertools
import random
import unittest

from helper import drawn_chart, spelled
from moodtree.choosing import goable, kept, meet, number_asks, picks
from moodtree.opening import opened
from moodtree.reading import read
from moodtree.tree import above

# Open are 0, 1, 3, 4, 6 and 7, with the leaves 3, 6 and 7.
CHART = """box x 5
one top pair
 on go to far2
 all pair
  on go if x = 5 do call a
  on go to low
  on else
  one left stand
   on go if open right and x < 9
   on other
   on go if shut right
   on go if x < 0 and open right and 1 <= x
   on go if open sit
   leaf stand
    on other to sit
    on go if x != 5 and shut sit and x < 6
    on go if shut stand
    on else to low
   leaf sit
  one right low
   leaf low
    on go if x < 3
    on other if x = 5
   leaf high
 leaf far2"""
# Moods: 0 top, 1 pair, 2 left, 3 stand, 4 sit, 5 right, 6 low, 7 high, 8 far2.
# Ways: 0 top go; 1, 2 pair go; 3 pair else; 4 left go; 5 left other; 6, 7, 8 left go;
# 9 stand other; 10, 11 stand go; 12 stand else; 13 low go; 14 low other.
OPENS = [0, 1, 2, 3, 5, 6]


class GoableTest(unittest.TestCase):
    def setUp(self):
        self.chart = read(CHART)

    def check(self, opens, leaf, sign, ways):
        before = spelled(self.chart)
        handed = list(opens)
        told = goable(self.chart, handed, leaf, sign)
        self.assertIs(type(told), list)
        self.assertEqual(told, ways)
        told.append(77)
        self.assertEqual(goable(self.chart, handed, leaf, sign), ways)
        self.assertEqual(handed, opens)
        self.assertEqual(spelled(self.chart), before)

    def test_the_ways_of_the_leaf_come_first_then_those_of_its_elders(self):
        self.check(OPENS, 3, "other", [9, 5])
        self.check(OPENS, 6, "other", [14])
        self.check(OPENS, 6, "go", [13, 1, 2, 0])
        self.check(OPENS, 3, "else", [12, 3])
        self.check(OPENS, 6, "else", [3])

    def test_open_and_shut_asks(self):
        self.check(OPENS, 3, "go", [10, 4, 7, 1, 2, 0])
        self.check([0, 1, 2, 4, 5, 6], 4, "go", [4, 7, 8, 1, 2, 0])
        self.check([0, 8], 8, "go", [0])

    def test_asks_of_numbers_are_passed_over(self):
        # Way 7 asks what no number meets, way 10 what the box does not meet: both may go.
        self.assertIn(7, goable(self.chart, OPENS, 3, "go"))
        self.assertIn(10, goable(self.chart, OPENS, 3, "go"))

    def test_a_sign_of_no_way(self):
        self.check(OPENS, 3, "none", [])
        self.check(OPENS, 6, "top", [])

    def test_one_leaf_alone(self):
        chart = read("leaf m\n on a if open m\n on b\n on a if shut m\n on a")
        self.assertEqual(goable(chart, [0], 0, "a"), [0, 3])
        self.assertEqual(goable(chart, [0], 0, "b"), [1])


class NumberAsksTest(unittest.TestCase):
    def test_in_their_order_without_open_and_shut(self):
        chart = read(CHART)
        before = spelled(chart)
        for way, asks in (
            (0, ()),
            (1, (("=", (0, 0), (-1, 5)),)),
            (4, (("<", (0, 0), (-1, 9)),)),
            (6, ()),
            (7, (("<", (0, 0), (-1, 0)), ("<=", (-1, 1), (0, 0)))),
            (10, (("!=", (0, 0), (-1, 5)), ("<", (0, 0), (-1, 6)))),
        ):
            told = number_asks(chart, way)
            self.assertIs(type(told), tuple)
            self.assertEqual(told, asks)
        self.assertEqual(spelled(chart), before)

    def test_the_same_ask_twice(self):
        chart = read("leaf m\n on a if 1 < 2 and open m and 1 < 2")
        self.assertEqual(number_asks(chart, 0), (("<", (-1, 1), (-1, 2)),) * 2)


class PicksTest(unittest.TestCase):
    def check(self, opens, boxes, sign, ways):
        chart = read(CHART)
        before = spelled(chart)
        handed = (list(opens), list(boxes))
        told = picks(chart, handed[0], handed[1], sign)
        self.assertIs(type(told), list)
        self.assertEqual(told, ways)
        told.append(77)
        self.assertEqual(picks(chart, handed[0], handed[1], sign), ways)
        self.assertEqual(handed, (opens, boxes))
        self.assertEqual(spelled(chart), before)

    def test_the_first_that_holds(self):
        self.check(OPENS, [5], "go", [4, 1])
        self.check(OPENS, [4], "go", [10, 2])
        self.check(OPENS, [2], "go", [10, 13])
        self.check(OPENS, [9], "go", [2])
        self.check(OPENS, [5], "other", [9, 14])
        self.check(OPENS, [6], "other", [9])

    def test_a_way_picked_by_two_leaves_is_told_once(self):
        self.check(OPENS, [10], "go", [2])
        self.check([0, 1, 2, 4, 5, 6], [5], "else", [3])

    def test_in_the_order_of_the_leaves(self):
        self.check(OPENS, [5], "else", [12, 3])
        self.check([0, 1, 2, 4, 5, 7], [9], "go", [8, 2])
        chart = read("all m\n on s if shut n\n on s\n leaf n\n leaf o\n  on s\n leaf p")
        self.assertEqual(picks(chart, [0, 1, 2, 3], [], "s"), [1, 2])
        chart = read("all m\n on s\n leaf n\n  on s\n leaf o")
        self.assertEqual(picks(chart, [0, 1, 2], [], "s"), [1, 0])

    def test_none(self):
        self.check(OPENS, [5], "none", [])
        self.check([0, 8], [5], "other", [])

    def test_other_numbers_than_the_first_ones_of_the_boxes(self):
        self.check([0, 1, 2, 4, 5, 6], [2], "go", [4, 13])
        self.check([0, 1, 2, 4, 5, 6], [10 ** 40], "go", [8, 2])


# 0 one top, 1 all pair, 2 one left (3 a, 4 b), 5 one right (6 one deep (7 c, 8 d), 9 e), 10 f
MEETING = """one top pair
 on s to f
 all pair
  on s to pair
  on s
  one left a
   on s to b
   leaf a
    on s to b
    on s to a
    on s to left
    on s to c
    on s to top
    on s
   leaf b
  one right deep
   on s to right
   on s to e
   one deep c
    on s to d
    leaf c
     on s to d
     on s to e
     on s to f
     on s do call s
    leaf d
   leaf e
 leaf f"""
# Ways: 0 top>f 1 pair>pair 2 pair stays 3 left>b 4 a>b 5 a>a 6 a>left 7 a>c 8 a>top 9 a stays
# 10 right>right 11 right>e 12 deep>d 13 c>d 14 c>e 15 c>f 16 c stays
TOPS = {0: -1, 1: 0, 3: 0, 4: 2, 5: 2, 6: 0, 7: 0, 8: -1, 10: 0, 11: 0, 12: 5, 13: 6, 14: 5, 15: 0}


class MeetTest(unittest.TestCase):
    def setUp(self):
        self.chart = read(MEETING)

    def test_every_two_ways(self):
        before = spelled(self.chart)
        for one, other in itertools.product(range(17), repeat=2):
            fits = one in TOPS and other in TOPS
            if fits:
                tops = (TOPS[one], TOPS[other])
                # Those that lie beside one another: left, and right with deep in it.
                fits = tops not in ((2, 5), (5, 2), (2, 6), (6, 2))
            self.assertIs(meet(self.chart, one, other), fits, (one, other))
        self.assertEqual(spelled(self.chart), before)

    def test_ways_that_stay_meet_none(self):
        for way in range(17):
            for stay in (2, 9, 16):
                self.assertIs(meet(self.chart, way, stay), False)
                self.assertIs(meet(self.chart, stay, way), False)

    def test_a_way_with_a_target_meets_itself(self):
        for way in range(17):
            self.assertIs(meet(self.chart, way, way), way not in (2, 9, 16))

    def test_a_top_of_none(self):
        chart = read("all m\n on s to m\n leaf n\n  on s to n\n one o p\n  leaf p\n   on s to p")
        self.assertIs(meet(chart, 0, 2), True)
        self.assertIs(meet(chart, 2, 0), True)
        self.assertIs(meet(chart, 1, 2), True)
        self.assertIs(meet(chart, 2, 1), True)
        self.assertIs(meet(chart, 0, 1), True)


class KeptTest(unittest.TestCase):
    def check(self, found, ways, text=MEETING):
        chart = read(text)
        before = spelled(chart)
        handed = list(found)
        told = kept(chart, handed)
        self.assertIs(type(told), list)
        self.assertEqual(told, ways, found)
        told.append(77)
        self.assertEqual(kept(chart, handed), ways)
        self.assertEqual(handed, found)
        self.assertEqual(spelled(chart), before)

    def test_none_and_one(self):
        self.check([], [])
        for way in range(17):
            self.check([way], [way])

    def test_the_deepest_source_first(self):
        self.check([0, 13], [13])
        self.check([13, 0], [13])
        self.check([12, 13], [13])
        self.check([3, 4], [4])
        self.check([1, 3, 4], [4])
        self.check([0, 1, 3, 10, 12, 13], [13])

    def test_of_the_same_depth_the_first_of_the_row(self):
        self.check([4, 5], [4])
        self.check([5, 4], [5])
        self.check([13, 14, 15], [13])
        self.check([15, 14, 13], [15])
        self.check([14, 13], [14])
        self.check([11, 10], [11])

    def test_ways_side_by_side_are_told_rising(self):
        self.check([4, 13], [4, 13])
        self.check([13, 4], [4, 13])
        self.check([14, 5], [5, 14])
        self.check([12, 4], [4, 12])
        self.check([16, 13, 9, 4, 2], [2, 4, 9, 13, 16])

    def test_ways_that_stay_are_kept(self):
        self.check([2, 9, 16], [2, 9, 16])
        self.check([16, 9, 2], [2, 9, 16])
        self.check([8, 9, 4], [8, 9])

    def test_one_that_is_not_kept_bars_no_other(self):
        # Way 7 falls to way 13, and way 4, which meets way 7 alone, is kept.
        self.check([15, 4], [15])
        self.check([7, 13], [13])
        self.check([7, 4, 13], [4, 13])

    def test_against_its_words_on_many_charts(self):
        for seed in range(150):
            chart = drawn_chart(seed, 14, 10)
            draw = random.Random(f"kept {seed}")
            for _ in range(6):
                found = draw.sample(range(len(chart.ways)), draw.randint(0, len(chart.ways)))
                chosen = []
                for deep in range(12, -1, -1):
                    for way in found:
                        if len(above(chart.tree, chart.ways[way][0])) == deep:
                            if all(not meet(chart, way, other) for other in chosen):
                                chosen.append(way)
                self.assertEqual(kept(chart, found), sorted(chosen))


class ManyChartsTest(unittest.TestCase):
    """What is picked, found another way about: from the ways to the leaves."""

    def holds(self, ask, opens, boxes):
        if ask[0] == "open":
            return ask[1] in opens
        if ask[0] == "shut":
            return ask[1] not in opens
        one, other = ((boxes[box] if box != -1 else 0) + more for box, more in ask[1:])
        return {"<": one < other, "<=": one <= other, "=": one == other, "!=": one != other}[ask[0]]

    def test_picks(self):
        for seed in range(300):
            chart = drawn_chart(seed, 14, 14, ("a", "b"), (0, 1, 2))
            opens = opened(chart.tree, [-1] * len(chart.names), 0, "new")
            boxes = [seed % 3] * len(chart.boxes)
            for sign in ("a", "b"):
                fitting = []
                for leaf in opens:
                    if chart.tree.kinds[leaf] != "leaf":
                        continue
                    line = [leaf] + above(chart.tree, leaf)
                    ways = [
                        (line.index(way[0]), number) for number, way in enumerate(chart.ways)
                        if way[0] in line and way[1] == sign and all(self.holds(ask, opens, boxes) for ask in way[2])
                    ]
                    if ways and min(ways)[1] not in fitting:
                        fitting.append(min(ways)[1])
                self.assertEqual(picks(chart, opens, boxes, sign), fitting)

    def test_kept_ways_do_not_meet(self):
        for seed in range(200):
            chart = drawn_chart(seed, 14, 14)
            chosen = kept(chart, list(range(len(chart.ways))))
            for one, other in itertools.combinations(chosen, 2):
                self.assertIs(meet(chart, one, other), False)
            for way in chosen:
                target = chart.ways[way][4]
                self.assertIs(meet(chart, way, way), target != -1)


if __name__ == "__main__":
    unittest.main()
