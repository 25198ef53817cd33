"""Scripts done and journal rows walked: points [36] to [38], and [4] of what is handed in and told."""

import random
import unittest

from helper import drawn_chart
from moodtree.choosing import kept
from moodtree.chart import firsts
from moodtree.journal import performed, told, walked, walked_back
from moodtree.moving import begun, moved

# Every first word that a journal row may have.
ROWS = [
    ("sign", "go"),
    ("out", 4),
    ("keep", 2, -1, 4),
    ("put", 0, 5, 7),
    ("out", 2),
    ("way", 3),
    ("call", "more"),
    ("say", "word", 7),
    ("put", 1, 0, -3),
    ("in", 3),
    ("in", 9),
    ("put", 0, 7, 8),
    ("keep", 2, 4, 3),
    ("rest", 2),
]
BEFORE = ([0, 2, 4, 7], [-1, 7, -1, -1, -1, -1, -1, -1, -1, -1], [5, 0, 9])
BEHIND = ([0, 3, 7, 9], [-1, 7, 3, -1, -1, -1, -1, -1, -1, -1], [8, -3, 9])


def copy_of(state):
    return tuple(list(part) for part in state)


class PerformedTest(unittest.TestCase):
    def check(self, script, boxes, fitting):
        for row in (list(script), tuple(script)):
            handed = list(boxes)
            answer = performed(row, handed)
            self.assertIs(type(answer), tuple)
            self.assertEqual([type(part) for part in answer], [list] * 3)
            self.assertEqual(answer, fitting)
            for part in answer:
                part.append(77)
            self.assertEqual(handed, boxes)
            self.assertEqual(list(row), list(script))
            self.assertEqual(performed(row, handed), fitting)

    def test_marks_and_deeds(self):
        script = [
            ("out", 3), ("keep", 2, -1, 3), ("put", 0, (0, 1)), ("way", 0), ("call", "b"), ("put", 1, (0, 0)),
            ("in", 1), ("say", "w", (1, 10)), ("call", "a"), ("call", "b"),
        ]
        rows = [
            ("out", 3), ("keep", 2, -1, 3), ("put", 0, 5, 6), ("way", 0), ("call", "b"), ("put", 1, 0, 6),
            ("in", 1), ("say", "w", 16), ("call", "a"), ("call", "b"),
        ]
        self.check(script, [5, 0], ([6, 6], rows, ["b", "a", "b"]))

    def test_an_empty_script(self):
        self.check([], [5, 0], ([5, 0], [], []))
        self.check([], [], ([], [], []))

    def test_marks_alone_tell_themselves(self):
        marks = [("out", 0), ("out", 1), ("keep", 0, 1, 1), ("way", 2), ("in", 0), ("in", 1)]
        self.check(marks, [3], ([3], marks, []))

    def test_deeds_alone(self):
        self.check([("put", 0, (-1, 2)), ("say", "w", (0, 0))], [3], ([2], [("put", 0, 3, 2), ("say", "w", 2)], []))


class WalkedTest(unittest.TestCase):
    def check(self, ask, rows, state, behind):
        for row in (list(rows), tuple(rows)):
            handed = copy_of(state)
            answer = ask(row, handed)
            self.assertIs(type(answer), tuple)
            self.assertEqual([type(part) for part in answer], [list] * 3)
            self.assertEqual(answer, behind)
            for part in answer:
                part.append(77)
            self.assertEqual(handed, state)
            self.assertEqual(list(row), list(rows))
            self.assertEqual(ask(row, handed), behind)

    def test_no_rows(self):
        for state in (BEFORE, BEHIND, ([], [], [])):
            self.check(walked, [], state, state)
            self.check(walked_back, [], state, state)

    def test_every_first_word(self):
        self.check(walked, ROWS, BEFORE, BEHIND)
        self.check(walked_back, ROWS, BEHIND, BEFORE)

    def test_row_by_row(self):
        state = BEFORE
        for row in ROWS:
            forward = walked([row], state)
            self.check(walked_back, [row], forward, state)
            state = forward
        self.assertEqual(state, BEHIND)

    def test_each_row_alone(self):
        state = ([1, 5], [-1, 4, -1, -1, 9, 9], [3, 4])
        for row, behind in (
            (("out", 1), ([5], state[1], state[2])),
            (("out", 5), ([1], state[1], state[2])),
            (("in", 0), ([0, 1, 5], state[1], state[2])),
            (("in", 3), ([1, 3, 5], state[1], state[2])),
            (("in", 9), ([1, 5, 9], state[1], state[2])),
            (("keep", 1, 4, 2), (state[0], [-1, 2, -1, -1, 9, 9], state[2])),
            (("keep", 1, 4, 4), state),
            (("put", 1, 4, 6), (state[0], state[1], [3, 6])),
            (("put", 0, 3, 3), state),
            (("way", 1), state),
            (("call", "in"), state),
            (("say", "out", 1), state),
            (("sign", "keep"), state),
            (("rest", 1), state),
        ):
            self.check(walked, [row], state, behind)
            self.check(walked_back, [row], behind, state)

    def test_keep_and_put_set_whatever_stands_there(self):
        state = ([0], [8, 8], [8, 8])
        self.check(walked, [("keep", 1, 3, 4), ("put", 1, 5, 6)], state, ([0], [8, 4], [8, 6]))
        self.check(walked_back, [("keep", 1, 3, 4), ("put", 1, 5, 6)], state, ([0], [8, 3], [8, 5]))

    def test_back_goes_from_the_last_row(self):
        rows = [("put", 0, 1, 2), ("put", 0, 2, 3), ("keep", 0, -1, 1), ("keep", 0, 1, 2), ("out", 0), ("in", 0)]
        self.check(walked_back, rows, ([0], [2], [3]), ([0], [-1], [1]))
        self.check(walked, rows, ([0], [-1], [1]), ([0], [2], [3]))

    def test_the_scripts_of_many_moves(self):
        for seed in range(200):
            chart = drawn_chart(seed, 14, 10)
            draw = random.Random(f"walks {seed}")
            script, opens, memory = begun(chart)
            boxes, rows = performed(script, firsts(chart))[:2]
            empty = ([], [-1] * len(chart.names), firsts(chart))
            self.check(walked, rows, empty, (opens, memory, boxes))
            self.check(walked_back, rows, (opens, memory, boxes), empty)
            for _ in range(5):
                ways = kept(chart, [way for way in range(len(chart.ways))
                                    if chart.ways[way][0] in opens and draw.random() < 0.7])
                script, opens_behind, memory_behind = moved(chart, opens, memory, ways)
                boxes_behind, rows, _ = performed(script, boxes)
                self.check(walked, rows, (opens, memory, boxes), (opens_behind, memory_behind, boxes_behind))
                self.check(walked_back, rows, (opens_behind, memory_behind, boxes_behind), (opens, memory, boxes))
                opens, memory, boxes = opens_behind, memory_behind, boxes_behind


class ToldTest(unittest.TestCase):
    def test_out_keep_way_and_in_alone_are_left_out(self):
        fitting = [
            ("sign", "go"), ("put", 0, 5, 7), ("call", "more"), ("say", "word", 7), ("put", 1, 0, -3), ("put", 0, 7, 8),
            ("rest", 2),
        ]
        for rows in (list(ROWS), tuple(ROWS)):
            answer = told(rows)
            self.assertIs(type(answer), list)
            self.assertEqual(answer, fitting)
            answer.append(77)
            self.assertEqual(told(rows), fitting)
            self.assertEqual(list(rows), ROWS)

    def test_a_script(self):
        self.assertEqual(told([("in", 0), ("put", 0, (0, 1)), ("out", 1)]), [("put", 0, (0, 1))])
        self.assertEqual(told([("in", 0), ("out", 1), ("way", 1), ("keep", 1, 2, 3)]), [])
        self.assertEqual(told([]), [])

    def test_words_and_signs_that_read_like_marks(self):
        rows = [("call", "way"), ("say", "keep", 1), ("sign", "way")]
        self.assertEqual(told(rows), rows)


if __name__ == "__main__":
    unittest.main()
