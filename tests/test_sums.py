"""Terms and asks of numbers: points [6] and [7], and [4] of what they are handed."""

import unittest

from moodtree.sums import all_hold, holds, value

SIXTY = 10 ** 59 + 7  # a number of sixty figures
MARKS = ("<", "<=", "=", "!=")


def number(more):
    return (-1, more)


class ValueTest(unittest.TestCase):
    def test_term_of_a_box_adds_more(self):
        boxes = [5, -7, 0]
        self.assertEqual(value((0, 3), boxes), 8)
        self.assertEqual(value((1, 3), boxes), -4)
        self.assertEqual(value((2, 3), boxes), 3)
        self.assertEqual(value((0, -3), boxes), 2)
        self.assertEqual(value((0, -6), boxes), -1)
        self.assertEqual(value((1, 7), boxes), 0)

    def test_more_of_nought_tells_the_box(self):
        boxes = [5, -7, 0]
        self.assertEqual([value((box, 0), boxes) for box in range(3)], boxes)

    def test_no_box_tells_more_alone(self):
        for boxes in ([], [5], [5, 6, 9]):
            for more in (0, 1, -1, 4, -12, SIXTY, -SIXTY):
                self.assertEqual(value((-1, more), boxes), more)

    def test_numbers_of_sixty_figures(self):
        boxes = [SIXTY, -SIXTY]
        self.assertEqual(len(str(SIXTY)), 60)
        self.assertEqual(value((0, 1), boxes), SIXTY + 1)
        self.assertEqual(value((0, SIXTY), boxes), 2 * SIXTY)
        self.assertEqual(value((1, SIXTY), boxes), 0)
        self.assertEqual(value((0, -SIXTY - 1), boxes), -1)
        self.assertEqual(value((1, 0), boxes), -SIXTY)

    def test_the_value_is_a_whole_number(self):
        for term in ((-1, 0), (0, 0), (0, 2)):
            self.assertIs(type(value(term, [3])), int)

    def test_boxes_stay_as_they_are(self):
        boxes = [5, -7]
        value((0, 3), boxes)
        value((-1, 3), boxes)
        self.assertEqual(boxes, [5, -7])


class HoldsTest(unittest.TestCase):
    def check(self, one, other, boxes, order):
        """`order` is below nought, nought or above it as the first value lies to the second."""
        fitting = {"<": order < 0, "<=": order <= 0, "=": order == 0, "!=": order != 0}
        for mark in MARKS:
            self.assertIs(holds((mark, one, other), boxes), fitting[mark], (mark, one, other, boxes))

    def test_two_numbers(self):
        for far in (1, 1000, SIXTY):
            for middle in (0, 5, -5, SIXTY, -SIXTY):
                self.check(number(middle - far), number(middle), [], -1)
                self.check(number(middle), number(middle), [], 0)
                self.check(number(middle + far), number(middle), [], 1)

    def test_a_box_and_a_number(self):
        for far in (1, 1000, SIXTY):
            boxes = [99, 4]
            self.check((1, 0), number(4 + far), boxes, -1)
            self.check((1, 0), number(4), boxes, 0)
            self.check((1, 0), number(4 - far), boxes, 1)
            self.check((1, 2), number(6 + far), boxes, -1)
            self.check((1, 2), number(6), boxes, 0)
            self.check((1, 2), number(6 - far), boxes, 1)

    def test_a_number_and_a_box(self):
        for far in (1, 1000, SIXTY):
            boxes = [99, -4]
            self.check(number(-4 - far), (1, 0), boxes, -1)
            self.check(number(-4), (1, 0), boxes, 0)
            self.check(number(-4 + far), (1, 0), boxes, 1)
            self.check(number(-6), (1, -2), boxes, 0)

    def test_two_boxes(self):
        for far in (1, 1000, SIXTY):
            self.check((0, 0), (1, 0), [7, 7 + far], -1)
            self.check((0, 0), (1, 0), [7, 7], 0)
            self.check((0, 0), (1, 0), [7 + far, 7], 1)
            self.check((0, far), (1, 0), [7, 7 + far], 0)
            self.check((0, 0), (1, far), [7 + far + 1, 7], 1)
            self.check((1, 0), (0, 0), [7, 7 + far], 1)

    def test_the_same_box_twice(self):
        for far in (1, 1000, SIXTY):
            for held in (0, -3, SIXTY):
                self.check((0, 0), (0, far), [held], -1)
                self.check((0, far), (0, far), [held], 0)
                self.check((0, 0), (0, -far), [held], 1)

    def test_large_equal_numbers_made_apart(self):
        boxes = [int("1" + "0" * 59), int("1" + "0" * 59)]
        self.check((0, 0), (1, 0), boxes, 0)

    def test_boxes_stay_as_they_are(self):
        boxes = [5, -7]
        for mark in MARKS:
            holds((mark, (0, 1), (1, 2)), boxes)
        self.assertEqual(boxes, [5, -7])


class AllHoldTest(unittest.TestCase):
    boxes = [1, 2, 3]
    yes = (("<", (0, 0), (1, 0)), ("<=", (1, 1), (2, 0)), ("=", (2, 0), (-1, 3)), ("!=", (0, 0), (2, 0)))
    no = ("=", (0, 0), (1, 0))

    def told(self, asks):
        """The answer for the row as a tuple and as a list, which must agree."""
        handed = list(asks)
        boxes = list(self.boxes)
        answer = all_hold(handed, boxes)
        self.assertIs(all_hold(tuple(asks), boxes), answer)
        self.assertEqual(handed, list(asks))
        self.assertEqual(boxes, self.boxes)
        return answer

    def test_an_empty_row_holds(self):
        self.assertIs(self.told(()), True)
        self.assertIs(all_hold((), []), True)
        self.assertIs(all_hold([], []), True)

    def test_a_row_where_each_holds(self):
        self.assertIs(self.told(self.yes), True)
        for ask in self.yes:
            self.assertIs(self.told((ask,)), True)

    def test_a_row_where_one_does_not_hold(self):
        self.assertIs(self.told((self.no,)), False)
        for place in range(len(self.yes) + 1):
            asks = self.yes[:place] + (self.no,) + self.yes[place:]
            self.assertIs(self.told(asks), False, place)

    def test_a_row_where_none_holds(self):
        self.assertIs(self.told((self.no, self.no)), False)


if __name__ == "__main__":
    unittest.main()
