"""The tree, its roads and tops: points [11] to [15] with [2], and [4] of what is handed in and told."""

import unittest

from helper import ALL, LEAF, ONE, chain, mixed, spelled_tree, tree_of, trees, wide
from moodtree.roads import road, top
from moodtree.tree import Tree, above, beneath, depth, inner, within


def line_up(tree, mood):
    """The moods above one, found by going through all moods downward: no step upward is taken."""
    lines = {0: []}
    for place in range(1, len(tree.elders)):
        lines[place] = [tree.elders[place]] + lines[tree.elders[place]]
    return lines[mood]


class TreeTest(unittest.TestCase):
    def test_fields_are_as_handed_in(self):
        tree = Tree(["one", "leaf"], [-1, 0], [1, -1])
        self.assertEqual((tree.kinds, tree.elders, tree.starts), (["one", "leaf"], [-1, 0], [1, -1]))
        self.assertEqual([type(part) for part in (tree.kinds, tree.elders, tree.starts)], [list] * 3)

    def test_nothing_is_looked_at(self):
        tree = Tree(["none", "leaf"], [7], [])
        self.assertEqual((tree.kinds, tree.elders, tree.starts), (["none", "leaf"], [7], []))

    def test_lists_are_its_own(self):
        kinds, elders, starts = ["one", "leaf"], [-1, 0], [1, -1]
        tree = Tree(kinds, elders, starts)
        before = spelled_tree(tree)
        kinds.append("leaf")
        elders[1] = -1
        starts.clear()
        self.assertEqual(spelled_tree(tree), before)
        self.assertEqual((above(tree, 1), inner(tree, 0), beneath(tree, -1)), ([0], [1], [0, 1]))


class AskedTest(unittest.TestCase):
    def test_a_tree_of_one_mood(self):
        tree = chain(1)
        self.assertEqual(above(tree, 0), [])
        self.assertEqual(depth(tree, 0), 0)
        self.assertEqual(inner(tree, 0), [])
        self.assertEqual(inner(tree, -1), [0])
        self.assertEqual(beneath(tree, 0), [])
        self.assertEqual(beneath(tree, -1), [0])
        self.assertIs(within(tree, 0, 0), False)
        self.assertIs(within(tree, 0, -1), True)

    def test_a_chain_twelve_deep(self):
        tree = chain(13)
        for mood in range(13):
            self.assertEqual(above(tree, mood), list(range(mood - 1, -1, -1)))
            self.assertEqual(depth(tree, mood), mood)
            self.assertEqual(inner(tree, mood), [mood + 1] if mood < 12 else [])
            self.assertEqual(beneath(tree, mood), list(range(mood + 1, 13)))
        self.assertEqual(inner(tree, -1), [0])
        self.assertEqual(beneath(tree, -1), list(range(13)))

    def test_a_wide_tree(self):
        tree = wide(40)
        self.assertEqual(inner(tree, 0), list(range(1, 41)))
        self.assertEqual(beneath(tree, 0), list(range(1, 41)))
        self.assertEqual(beneath(tree, -1), list(range(41)))
        for mood in range(1, 41):
            self.assertEqual(above(tree, mood), [0])
            self.assertEqual(depth(tree, mood), 1)
            self.assertEqual(inner(tree, mood), [])
            self.assertEqual(beneath(tree, mood), [])

    def test_a_mixed_tree(self):
        tree = mixed()
        self.assertEqual(above(tree, 6), [4, 3, 1, 0])
        self.assertEqual(above(tree, 10), [9, 8, 0])
        self.assertEqual([depth(tree, mood) for mood in range(13)], [0, 1, 2, 2, 3, 4, 4, 3, 1, 2, 3, 2, 1])
        self.assertEqual(inner(tree, 0), [1, 8, 12])
        self.assertEqual(inner(tree, 3), [4, 7])
        self.assertEqual(beneath(tree, 1), [2, 3, 4, 5, 6, 7])
        self.assertEqual(beneath(tree, 8), [9, 10, 11])

    def test_every_mood_of_many_trees(self):
        for tree in trees():
            moods = range(len(tree.elders))
            lines = [line_up(tree, mood) for mood in moods]
            for mood in moods:
                self.assertEqual(above(tree, mood), lines[mood])
                self.assertEqual(depth(tree, mood), len(lines[mood]))
                self.assertEqual(inner(tree, mood), [place for place in moods if lines[place][:1] == [mood]])
                self.assertEqual(beneath(tree, mood), [place for place in moods if mood in lines[place]])
                self.assertIs(within(tree, mood, -1), True)
                for other in moods:
                    self.assertIs(within(tree, mood, other), other in lines[mood])
            self.assertEqual(inner(tree, -1), [0])
            self.assertEqual(beneath(tree, -1), list(moods))

    def test_none_lies_within_itself_nor_one_above_within_one_below(self):
        tree = mixed()
        for mood in range(13):
            self.assertIs(within(tree, mood, mood), False)
        self.assertIs(within(tree, 6, 3), True)
        self.assertIs(within(tree, 3, 6), False)
        self.assertIs(within(tree, 9, 1), False)

    def test_the_elders_alone_are_gone_by(self):
        tree = Tree(["?"] * 3, [-1, 0, 1], [9] * 3)
        self.assertEqual(above(tree, 2), [1, 0])
        self.assertEqual(depth(tree, 2), 2)
        self.assertEqual(inner(tree, 1), [2])
        self.assertEqual(beneath(tree, 0), [1, 2])
        self.assertEqual(road(tree, -1, 2), [0, 1, 2])

    def test_what_is_told_is_the_askers_own(self):
        tree = mixed()
        before = spelled_tree(tree)
        for ask in (above, inner, beneath):
            for mood in (0, 4, 8):
                first = ask(tree, mood)
                self.assertIs(type(first), list)
                as_told = list(first)
                first.append(77)
                self.assertEqual(ask(tree, mood), as_told)
        steps = road(tree, 0, 6)
        steps.append(77)
        self.assertEqual(road(tree, 0, 6), [1, 3, 4, 6])
        self.assertEqual(spelled_tree(tree), before)


class RoadTest(unittest.TestCase):
    def test_roads_of_a_mixed_tree(self):
        tree = mixed()
        self.assertEqual(road(tree, -1, 6), [0, 1, 3, 4, 6])
        self.assertEqual(road(tree, 0, 6), [1, 3, 4, 6])
        self.assertEqual(road(tree, 1, 6), [3, 4, 6])
        self.assertEqual(road(tree, 3, 6), [4, 6])
        self.assertEqual(road(tree, 4, 6), [6])
        self.assertEqual(road(tree, -1, 0), [0])
        self.assertEqual(road(tree, -1, 12), [0, 12])
        self.assertIs(type(road(tree, -1, 12)), list)

    def test_from_each_mood_above_each_mood(self):
        for tree in trees():
            for mood in range(len(tree.elders)):
                line = line_up(tree, mood)
                for upper in line + [-1]:
                    fitting = [place for place in line + [mood] if upper in line_up(tree, place) or upper == -1]
                    self.assertEqual(road(tree, upper, mood), sorted(fitting))


class TopTest(unittest.TestCase):
    def test_of_different_branches(self):
        tree = tree_of([(ONE, -1, 1), (ONE, 0, 2), (LEAF, 1, -1), (LEAF, 1, -1), (LEAF, 0, -1)])
        self.assertEqual(top(tree, 2, 3), 1)
        self.assertEqual(top(tree, 3, 2), 1)
        self.assertEqual(top(tree, 2, 4), 0)
        self.assertEqual(top(tree, 4, 2), 0)

    def test_of_a_mood_and_one_above_it(self):
        tree = chain(4)
        self.assertEqual(top(tree, 3, 1), 0)
        self.assertEqual(top(tree, 1, 3), 0)
        self.assertEqual(top(tree, 3, 2), 1)
        self.assertEqual(top(tree, 3, 0), -1)
        self.assertEqual(top(tree, 0, 3), -1)

    def test_of_a_mood_and_itself(self):
        tree = chain(4)
        self.assertEqual([top(tree, mood, mood) for mood in range(4)], [-1, 0, 1, 2])

    def test_where_alls_lie_between(self):
        tree = mixed()
        self.assertEqual(top(tree, 5, 6), 4)
        self.assertEqual(top(tree, 5, 7), 1)
        self.assertEqual(top(tree, 4, 4), 1)
        self.assertEqual(top(tree, 7, 7), 1)

    def test_where_there_is_none(self):
        tree = mixed()
        self.assertEqual(top(tree, 5, 10), -1)
        self.assertEqual(top(tree, 2, 12), -1)
        self.assertEqual(top(tree, 12, 12), -1)
        self.assertEqual(top(tree, 0, 0), -1)
        self.assertEqual(top(tree, 1, 1), -1)
        self.assertEqual(top(wide(3), 1, 2), -1)
        self.assertEqual(top(chain(1), 0, 0), -1)

    def test_every_two_moods_of_many_trees(self):
        for tree in trees():
            moods = range(len(tree.elders))
            lines = [line_up(tree, mood) for mood in moods]
            for one in moods:
                for other in moods:
                    both = [mood for mood in lines[one] if mood in lines[other] and tree.kinds[mood] == ONE]
                    deepest = max(both, key=lambda mood: len(lines[mood]), default=-1)
                    self.assertEqual(top(tree, one, other), deepest)


if __name__ == "__main__":
    unittest.main()
