"""Open moods, opened, entered, left, remembered: points [25] to [28], and [4] of what is handed in and told."""

import itertools
import random
import unittest

from helper import ALL, LEAF, ONE, chain, mixed, spelled_tree, tree_of, trees, wide
from moodtree.opening import entered, is_whole, left, opened, remembered
from moodtree.tree import beneath

MODES = ("new", "near", "far")


def whole_lists(tree, mood=0):
    """All lists of what may be open of a mood and what lies within it, built from the leaves upward."""
    inside = [place for place, elder in enumerate(tree.elders) if elder == mood]
    if tree.kinds[mood] == LEAF:
        return [[mood]]
    if tree.kinds[mood] == ONE:
        return [[mood] + rest for place in inside for rest in whole_lists(tree, place)]
    parts = [whole_lists(tree, place) for place in inside]
    return [[mood] + sum(chosen, []) for chosen in itertools.product(*parts)]


class WholeTest(unittest.TestCase):
    def test_whole_lists(self):
        tree = mixed()
        for opens in whole_lists(tree):
            self.assertIs(is_whole(tree, opens), True, opens)
        self.assertIs(is_whole(chain(1), [0]), True)
        self.assertIs(is_whole(chain(13), list(range(13))), True)
        self.assertIs(is_whole(wide(40), list(range(41))), True)

    def test_a_list_that_breaks_one_thing(self):
        tree = mixed()
        whole = [0, 1, 3, 4, 5, 7, 8, 11, 12]
        self.assertIs(is_whole(tree, whole), True)
        for opens, words in (
            ([], "empty"),
            ([0, 1, 3, 4, 5, 7, 11, 8, 12], "does not rise"),
            (list(reversed(whole)), "falls"),
            ([0, 0] + whole[1:], "the root twice"),
            (whole + [12], "the last one twice"),
            ([0, 1, 3, 4, 5, 5, 7, 8, 11, 12], "one in the middle twice"),
            (whole + [13], "no mood"),
            (whole + [99], "no mood"),
            ([-1] + whole, "no mood"),
            ([-5] + whole, "no mood"),
            (whole[1:], "no root"),
            ([0, 1, 3, 4, 5, 7, 8, 10, 11, 12], "a mood without its elder"),
            ([0, 1, 2, 5, 8, 11, 12], "a mood far down without its elder"),
            ([0, 1, 8, 11, 12], "a one with none of its inner moods"),
            ([0, 1, 2, 8, 12], "the last one with none"),
            ([0, 1, 3, 4, 7, 8, 11, 12], "a deep one with none"),
            ([0, 1, 2, 3, 4, 5, 7, 8, 11, 12], "a one with two"),
            ([0, 1, 3, 4, 5, 6, 7, 8, 11, 12], "a deep one with two"),
            ([0, 1, 3, 4, 5, 7, 8, 11], "an all without its last inner mood"),
            ([0, 8, 11, 12], "an all without its first inner mood"),
            ([0, 1, 2, 12], "an all without a middle one"),
            ([0, 1, 3, 4, 5, 8, 11, 12], "a deep all without its last one"),
            ([0, 1, 3, 7, 8, 11, 12], "a deep all without its first one"),
            ([0], "the root alone"),
        ):
            self.assertIs(is_whole(tree, opens), False, words)
        self.assertIs(is_whole(chain(1), []), False)
        self.assertIs(is_whole(chain(1), [1]), False)
        self.assertIs(is_whole(chain(1), [0, 0]), False)
        self.assertIs(is_whole(chain(1), [0, 1]), False)
        self.assertIs(is_whole(chain(2), [0]), False)

    def test_every_list_of_small_trees(self):
        for tree in (chain(3), wide(3), tree_of([(ONE, -1, 1), (ALL, 0, -1), (LEAF, 1, -1), (LEAF, 1, -1),
                                                 (ONE, 0, 5), (LEAF, 4, -1), (LEAF, 4, -1)])):
            whole = whole_lists(tree)
            for many in range(len(tree.kinds) + 1):
                for opens in itertools.combinations(range(-1, len(tree.kinds) + 1), many):
                    self.assertIs(is_whole(tree, list(opens)), list(opens) in whole, opens)

    def test_what_is_handed_in_stays(self):
        tree = mixed()
        before = spelled_tree(tree)
        for opens in ([0, 1, 2, 8, 11, 12], [3, 1, 1], []):
            handed = list(opens)
            is_whole(tree, handed)
            self.assertEqual(handed, opens)
        self.assertEqual(spelled_tree(tree), before)


class OpenedTest(unittest.TestCase):
    def check(self, tree, memory, mood, fitting):
        """`fitting` tells what opens in mode new, near and far."""
        before = spelled_tree(tree)
        for mode, moods in zip(MODES, fitting):
            handed = list(memory)
            told = opened(tree, handed, mood, mode)
            self.assertIs(type(told), list)
            self.assertEqual(told, moods, (mood, mode))
            told.append(77)
            self.assertEqual(opened(tree, handed, mood, mode), moods)
            self.assertEqual(handed, memory)
        self.assertEqual(spelled_tree(tree), before)

    def test_without_a_memory(self):
        tree = mixed()
        empty = [-1] * 13
        for mood, moods in ((0, [0, 1, 2, 8, 11, 12]), (1, [1, 2]), (2, [2]), (3, [3, 4, 6, 7]), (4, [4, 6]),
                            (8, [8, 11]), (9, [9, 10]), (12, [12])):
            self.check(tree, empty, mood, [moods] * 3)

    def test_with_a_memory(self):
        tree = mixed()
        memory = [-1, 3, -1, -1, 5, -1, -1, -1, 9, 10, -1, -1, -1]
        for mood, new, near, far in (
            (0, [0, 1, 2, 8, 11, 12], [0, 1, 2, 8, 11, 12], [0, 1, 3, 4, 5, 7, 8, 9, 10, 12]),
            (1, [1, 2], [1, 3, 4, 6, 7], [1, 3, 4, 5, 7]),
            (3, [3, 4, 6, 7], [3, 4, 6, 7], [3, 4, 5, 7]),
            (4, [4, 6], [4, 5], [4, 5]),
            (8, [8, 11], [8, 9, 10], [8, 9, 10]),
            (5, [5], [5], [5]),
        ):
            self.check(tree, memory, mood, (new, near, far))

    def test_ones_in_one_another(self):
        tree = tree_of([(ONE, -1, 1), (ONE, 0, 2), (LEAF, 1, -1), (LEAF, 1, -1), (ONE, 0, 5), (LEAF, 4, -1), (LEAF, 4, -1)])
        for memory, new, near, far in (
            ([-1, -1, -1, -1, -1, -1, -1], [0, 1, 2], [0, 1, 2], [0, 1, 2]),
            ([-1, 3, -1, -1, -1, -1, -1], [0, 1, 2], [0, 1, 2], [0, 1, 3]),
            ([4, 3, -1, -1, -1, -1, -1], [0, 1, 2], [0, 4, 5], [0, 4, 5]),
            ([4, 3, -1, -1, 6, -1, -1], [0, 1, 2], [0, 4, 5], [0, 4, 6]),
            ([1, 3, -1, -1, 6, -1, -1], [0, 1, 2], [0, 1, 2], [0, 1, 3]),
        ):
            self.check(tree, memory, 0, (new, near, far))

    def test_alls_in_one_another(self):
        tree = tree_of([(ALL, -1, -1), (ALL, 0, -1), (ONE, 1, 3), (LEAF, 2, -1), (LEAF, 2, -1), (LEAF, 0, -1)])
        self.check(tree, [-1] * 6, 0, [[0, 1, 2, 3, 5]] * 3)
        self.check(tree, [-1, -1, 4, -1, -1, -1], 0, [[0, 1, 2, 3, 5], [0, 1, 2, 3, 5], [0, 1, 2, 4, 5]])

    def test_the_root_opens_a_whole_list(self):
        for tree in trees():
            draw = random.Random("memory")
            memory = [-1] * len(tree.kinds)
            for mood, kind in enumerate(tree.kinds):
                if kind == ONE:
                    memory[mood] = draw.choice([-1] + [place for place, elder in enumerate(tree.elders) if elder == mood])
            for mode in MODES:
                self.assertIs(is_whole(tree, opened(tree, memory, 0, mode)), True)


class EnteredTest(unittest.TestCase):
    def check(self, tree, memory, upper, target, fitting):
        before = spelled_tree(tree)
        for mode, moods in zip(MODES, fitting):
            handed = list(memory)
            told = entered(tree, handed, upper, target, mode)
            self.assertIs(type(told), list)
            self.assertEqual(told, moods, (upper, target, mode))
            told.append(77)
            self.assertEqual(entered(tree, handed, upper, target, mode), moods)
            self.assertEqual(handed, memory)
        self.assertEqual(spelled_tree(tree), before)

    def test_from_above_the_root(self):
        tree = mixed()
        empty = [-1] * 13
        for target, moods in (
            (0, [0, 1, 2, 8, 11, 12]),
            (6, [0, 1, 3, 4, 6, 7, 8, 11, 12]),
            (5, [0, 1, 3, 4, 5, 7, 8, 11, 12]),
            (7, [0, 1, 3, 4, 6, 7, 8, 11, 12]),
            (3, [0, 1, 3, 4, 6, 7, 8, 11, 12]),
            (9, [0, 1, 2, 8, 9, 10, 12]),
            (12, [0, 1, 2, 8, 11, 12]),
        ):
            self.check(tree, empty, -1, target, [moods] * 3)

    def test_from_a_one(self):
        tree = mixed()
        empty = [-1] * 13
        for upper, target, moods in (
            (1, 2, [2]), (1, 3, [3, 4, 6, 7]), (1, 5, [3, 4, 5, 7]), (1, 7, [3, 4, 6, 7]), (4, 5, [5]), (4, 6, [6]),
            (8, 11, [11]), (8, 9, [9, 10]), (8, 10, [9, 10]), (9, 10, [10]),
        ):
            self.check(tree, empty, upper, target, [moods] * 3)

    def test_the_target_goes_by_the_memory(self):
        tree = mixed()
        memory = [-1, 3, -1, -1, 5, -1, -1, -1, 9, 10, -1, -1, -1]
        self.check(tree, memory, 1, 3, [[3, 4, 6, 7], [3, 4, 6, 7], [3, 4, 5, 7]])
        self.check(tree, memory, 1, 4, [[3, 4, 6, 7], [3, 4, 5, 7], [3, 4, 5, 7]])
        self.check(tree, memory, -1, 1, [[0, 1, 2, 8, 11, 12], [0, 1, 3, 4, 6, 7, 8, 11, 12],
                                         [0, 1, 3, 4, 5, 7, 8, 11, 12]])

    def test_what_opens_beside_the_road_opens_in_mode_new(self):
        tree = mixed()
        memory = [-1, 3, -1, -1, 5, -1, -1, -1, 9, 10, -1, -1, -1]
        self.check(tree, memory, -1, 12, [[0, 1, 2, 8, 11, 12]] * 3)
        self.check(tree, memory, 1, 7, [[3, 4, 6, 7]] * 3)
        self.check(tree, memory, -1, 8, [[0, 1, 2, 8, 11, 12], [0, 1, 2, 8, 9, 10, 12], [0, 1, 2, 8, 9, 10, 12]])

    def test_an_all_straight_in_an_all_on_the_road(self):
        tree = tree_of([(ALL, -1, -1), (ALL, 0, -1), (LEAF, 1, -1), (ALL, 1, -1), (LEAF, 3, -1), (LEAF, 3, -1), (LEAF, 0, -1)])
        for target in range(7):
            self.check(tree, [-1] * 7, -1, target, [list(range(7))] * 3)


class LeftTest(unittest.TestCase):
    def check(self, tree, opens, upper, moods):
        handed = list(opens)
        told = left(tree, handed, upper)
        self.assertIs(type(told), list)
        self.assertEqual(told, moods, upper)
        told.append(77)
        self.assertEqual(left(tree, handed, upper), moods)
        self.assertEqual(handed, opens)

    def test_beneath_each_mood(self):
        opens = [0, 1, 3, 4, 5, 7, 8, 11, 12]
        for upper, moods in (
            (-1, [12, 11, 8, 7, 5, 4, 3, 1, 0]), (0, [12, 11, 8, 7, 5, 4, 3, 1]), (1, [7, 5, 4, 3]), (2, []),
            (3, [7, 5, 4]), (4, [5]), (5, []), (7, []), (8, [11]), (9, []), (10, []), (12, []),
        ):
            self.check(mixed(), opens, upper, moods)

    def test_one_mood(self):
        self.check(chain(1), [0], -1, [0])
        self.check(chain(1), [0], 0, [])

    def test_every_mood_of_many_trees(self):
        for tree in trees():
            opens = opened(tree, [-1] * len(tree.kinds), 0, "new")
            for upper in range(-1, len(tree.kinds)):
                inside = beneath(tree, upper)
                self.check(tree, opens, upper, [mood for mood in reversed(opens) if mood in inside])


class RememberedTest(unittest.TestCase):
    OPENS = [0, 1, 3, 4, 5, 7, 8, 11, 12]

    def check(self, memory, moods, behind):
        tree = mixed()
        for order in (list(moods), list(reversed(moods)), sorted(moods)):
            handed = (list(memory), list(self.OPENS), list(order))
            told = remembered(tree, *handed)
            self.assertIs(type(told), list)
            self.assertEqual(told, behind)
            told[0] = 77
            self.assertEqual(handed, (memory, self.OPENS, order))
            self.assertEqual(remembered(tree, *handed), behind)
        self.assertEqual(spelled_tree(tree), spelled_tree(mixed()))

    def test_of_an_empty_list(self):
        for memory in ([-1] * 13, [-1, 2, -1, -1, 6, -1, -1, -1, 9, 10, -1, -1, -1]):
            self.check(memory, [], memory)

    def test_of_moods_of_each_kind(self):
        empty = [-1] * 13
        self.check(empty, [12], empty)
        self.check(empty, [3], empty)
        self.check(empty, [0], empty)
        self.check(empty, [1], [-1, 3] + [-1] * 11)
        self.check(empty, [4], [-1, -1, -1, -1, 5] + [-1] * 8)
        self.check(empty, [8], [-1] * 8 + [11] + [-1] * 4)
        self.check(empty, [7, 5, 4, 3], [-1, -1, -1, -1, 5] + [-1] * 8)
        self.check(empty, list(reversed(self.OPENS)), [-1, 3, -1, -1, 5, -1, -1, -1, 11, -1, -1, -1, -1])

    def test_what_was_told_of_others_stays(self):
        memory = [-1, 2, -1, -1, 6, -1, -1, -1, 9, 10, -1, -1, -1]
        self.check(memory, [4, 5], [-1, 2, -1, -1, 5, -1, -1, -1, 9, 10, -1, -1, -1])
        self.check(memory, [8, 11], [-1, 2, -1, -1, 6, -1, -1, -1, 11, 10, -1, -1, -1])
        self.check(memory, list(reversed(self.OPENS)), [-1, 3, -1, -1, 5, -1, -1, -1, 11, 10, -1, -1, -1])


class TogetherTest(unittest.TestCase):
    def test_what_is_whole_stays_whole_and_far_opens_what_was_open(self):
        for seed, tree in enumerate(trees()):
            draw = random.Random(f"steps {seed}")
            memory = [-1] * len(tree.kinds)
            opens = opened(tree, memory, 0, "new")
            for _ in range(30):
                upper = draw.choice([-1] + [mood for mood in opens if tree.kinds[mood] == ONE])
                target = draw.choice(beneath(tree, upper))
                gone = left(tree, opens, upper)
                behind = remembered(tree, memory, opens, gone)
                for mood in gone:
                    if tree.kinds[mood] == ONE:
                        was = [place for place in opens if place == mood or place in beneath(tree, mood)]
                        self.assertEqual(opened(tree, behind, mood, "far"), was)
                come = entered(tree, behind, upper, target, draw.choice(MODES))
                self.assertEqual(come, sorted(set(come)))
                opens = sorted([mood for mood in opens if mood not in gone] + come)
                memory = behind
                self.assertIs(is_whole(tree, opens), True)
                self.assertIn(target, opens)


if __name__ == "__main__":
    unittest.main()
