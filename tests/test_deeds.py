"""Deeds and their journal rows: points [8] to [10], and [4] of what is handed in and told."""

import unittest

from moodtree.deeds import all_done, done, redone, undone

SIXTY = 10 ** 59 + 7  # a number of sixty figures

# A journal row of every first word but put, as [8], [34] and [39] tell them.
OTHER_ROWS = (
    ("call", "go"),
    ("say", "hello", 1),
    ("out", 1),
    ("keep", 0, 1, 2),
    ("way", 1),
    ("in", 1),
    ("sign", "go"),
    ("rest", 1),
)

# Later deeds read what earlier ones put; one sign is called twice.
DEEDS = (
    ("put", 0, (0, 1)),
    ("call", "b"),
    ("put", 1, (0, 10)),
    ("say", "sum", (1, 0)),
    ("call", "a"),
    ("put", 0, (1, 0)),
    ("call", "b"),
    ("put", 0, (0, 0)),
    ("say", "last", (-1, -4)),
)
FIRST = [5, 0, 9]
BEHIND = [16, 16, 9]
ROWS = [
    ("put", 0, 5, 6),
    ("call", "b"),
    ("put", 1, 0, 16),
    ("say", "sum", 16),
    ("call", "a"),
    ("put", 0, 6, 16),
    ("call", "b"),
    ("put", 0, 16, 16),
    ("say", "last", -4),
]
CALLED = ["b", "a", "b"]


class DoneTest(unittest.TestCase):
    def check(self, deed, boxes, behind, row):
        handed = list(boxes)
        told = done(deed, handed)
        self.assertIs(type(told), tuple)
        self.assertEqual(len(told), 2)
        self.assertIs(type(told[0]), list)
        self.assertEqual(told[0], behind)
        self.assertIs(type(told[1]), tuple)
        self.assertEqual(told[1], row)
        self.assertEqual(handed, boxes)
        told[0].append(77)
        self.assertEqual(handed, boxes)
        self.assertEqual(done(deed, handed), (behind, row))

    def test_put(self):
        self.check(("put", 0, (-1, 8)), [5, 6], [8, 6], ("put", 0, 5, 8))
        self.check(("put", 1, (-1, -8)), [5, 6], [5, -8], ("put", 1, 6, -8))
        self.check(("put", 0, (1, 0)), [5, 6], [6, 6], ("put", 0, 5, 6))
        self.check(("put", 1, (0, -9)), [5, 6], [5, -4], ("put", 1, 6, -4))
        self.check(("put", 0, (-1, 0)), [5], [0], ("put", 0, 5, 0))

    def test_put_of_its_own_box_reads_the_number_before(self):
        self.check(("put", 1, (1, 2)), [5, 6], [5, 8], ("put", 1, 6, 8))
        self.check(("put", 0, (0, -7)), [5, 6], [-2, 6], ("put", 0, 5, -2))

    def test_put_that_changes_nothing(self):
        self.check(("put", 0, (0, 0)), [5, 6], [5, 6], ("put", 0, 5, 5))
        self.check(("put", 1, (-1, 6)), [5, 6], [5, 6], ("put", 1, 6, 6))

    def test_put_of_sixty_figures(self):
        self.check(("put", 0, (0, SIXTY)), [SIXTY], [2 * SIXTY], ("put", 0, SIXTY, 2 * SIXTY))

    def test_call(self):
        self.check(("call", "go"), [5, 6], [5, 6], ("call", "go"))
        self.check(("call", "go"), [], [], ("call", "go"))

    def test_say(self):
        self.check(("say", "hello", (1, 3)), [5, 6], [5, 6], ("say", "hello", 9))
        self.check(("say", "hello", (-1, -3)), [5, 6], [5, 6], ("say", "hello", -3))
        self.check(("say", "hello", (-1, SIXTY)), [], [], ("say", "hello", SIXTY))

    def test_boxes_behind_do_not_follow_those_handed_in(self):
        for deed in (("put", 0, (0, 1)), ("put", 0, (0, 0)), ("call", "go"), ("say", "hello", (0, 0))):
            boxes = [5, 6]
            behind = done(deed, boxes)[0]
            as_told = list(behind)
            boxes[1] = 99
            self.assertEqual(behind, as_told, deed)


class UndoneTest(unittest.TestCase):
    def check(self, ask, row, boxes, behind):
        handed = list(boxes)
        told = ask(row, handed)
        self.assertIs(type(told), list)
        self.assertEqual(told, behind)
        self.assertEqual(handed, boxes)
        told.append(77)
        self.assertEqual(handed, boxes)
        self.assertEqual(ask(row, handed), behind)

    def test_undone_puts_back_what_was_before(self):
        self.check(undone, ("put", 1, 6, 8), [5, 8], [5, 6])
        self.check(undone, ("put", 0, -6, 0), [0, 8], [-6, 8])
        self.check(undone, ("put", 0, SIXTY, -SIXTY), [-SIXTY], [SIXTY])

    def test_redone_puts_what_was_behind(self):
        self.check(redone, ("put", 1, 6, 8), [5, 6], [5, 8])
        self.check(redone, ("put", 0, 0, -6), [0, 8], [-6, 8])
        self.check(redone, ("put", 0, SIXTY, -SIXTY), [SIXTY], [-SIXTY])

    def test_whatever_the_box_holds(self):
        for held in (6, 8, 7, 0, -100, SIXTY):
            self.check(undone, ("put", 1, 6, 8), [5, held, 3], [5, 6, 3])
            self.check(redone, ("put", 1, 6, 8), [5, held, 3], [5, 8, 3])

    def test_a_put_that_changed_nothing(self):
        self.check(undone, ("put", 0, 4, 4), [4, 1], [4, 1])
        self.check(redone, ("put", 0, 4, 4), [4, 1], [4, 1])

    def test_rows_of_other_words_leave_the_boxes(self):
        for row in OTHER_ROWS:
            for boxes in ([5, 6, 7], []):
                self.check(undone, row, boxes, boxes)
                self.check(redone, row, boxes, boxes)

    def test_a_done_deed_is_undone_and_redone(self):
        for deed in DEEDS:
            told = done(deed, FIRST)
            self.assertEqual(undone(told[1], told[0]), FIRST)
            self.assertEqual(redone(told[1], FIRST), told[0])


class AllDoneTest(unittest.TestCase):
    def check(self, deeds, boxes, fitting):
        for row in (list(deeds), tuple(deeds)):
            handed = list(boxes)
            told = all_done(row, handed)
            self.assertIs(type(told), tuple)
            self.assertEqual([type(part) for part in told], [list, list, list])
            self.assertEqual(told, fitting)
            self.assertEqual([type(line) for line in told[1]], [tuple] * len(fitting[1]))
            for part in told:
                part.append(77)
            self.assertEqual(handed, boxes)
            self.assertEqual(list(row), list(deeds))
            self.assertEqual(all_done(row, handed), fitting)

    def test_later_deeds_read_what_earlier_ones_put(self):
        self.check(DEEDS, FIRST, (BEHIND, ROWS, CALLED))

    def test_an_empty_row(self):
        self.check((), [5, 6], ([5, 6], [], []))
        self.check((), [], ([], [], []))

    def test_a_row_that_leaves_the_boxes(self):
        deeds = (("call", "a"), ("say", "w", (0, 1)), ("put", 0, (0, 0)))
        self.check(deeds, [5], ([5], [("call", "a"), ("say", "w", 6), ("put", 0, 5, 5)], ["a"]))

    def test_signs_called_in_their_order_the_same_one_twice(self):
        deeds = (("call", "b"), ("call", "a"), ("call", "b"), ("call", "b"))
        self.check(deeds, [], ([], list(deeds), ["b", "a", "b", "b"]))

    def test_only_signs_of_calls_are_called(self):
        self.check((("say", "call", (-1, 2)),), [], ([], [("say", "call", 2)], []))

    def test_boxes_behind_do_not_follow_those_handed_in(self):
        for deeds in (DEEDS, (), (("call", "a"),)):
            boxes = list(FIRST)
            behind = all_done(deeds, boxes)[0]
            as_told = list(behind)
            boxes[2] = 99
            self.assertEqual(behind, as_told)

    def test_undone_from_the_last_row_the_boxes_before_come_back(self):
        told = all_done(DEEDS, FIRST)
        boxes = told[0]
        for row in reversed(told[1]):
            boxes = undone(row, boxes)
        self.assertEqual(boxes, FIRST)

    def test_redone_from_the_first_row_the_boxes_behind_come(self):
        boxes = FIRST
        for row in all_done(DEEDS, FIRST)[1]:
            boxes = redone(row, boxes)
        self.assertEqual(boxes, BEHIND)
        self.assertEqual(FIRST, [5, 0, 9])


if __name__ == "__main__":
    unittest.main()
