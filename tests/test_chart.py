"""Charts, their signs and first numbers, and names: points [3], [16] to [18], and [4] of charts."""

import unittest

from helper import chain, chart_of, spelled, wide
from moodtree.chart import Chart, firsts, is_name, signs

WORDS = """all and box call do far if in leaf near on one open out put say shut then to""".split()
# All signs from the blank to ~ but the sign of per cent, and the line feed.
SIGNS = [chr(number) for number in range(32, 127) if chr(number) != chr(37)] + ["\n"]
SMALL = [chr(number) for number in range(ord("a"), ord("z") + 1)]
FIGURES = [str(number) for number in range(10)]


class NameTest(unittest.TestCase):
    def test_plain_names(self):
        for text in ("a", "z", "abc", "a0", "z9", "m12", "sign", "new", "way", "keep", "rest", "flat", "f0"):
            self.assertIs(is_name(text), True, text)

    def test_the_nineteen_words(self):
        self.assertEqual(len(set(WORDS)), 19)
        for word in WORDS:
            self.assertIs(is_name(word), False, word)

    def test_a_sign_more_or_less_than_the_words(self):
        for word in WORDS:
            for text in (word + "a", word + "0", "a" + word, word + word, word[:-1], word[1:]):
                self.assertIs(is_name(text), text not in WORDS, text)
            self.assertIs(is_name("0" + word), False)
            self.assertIs(is_name(word + " "), False)
            self.assertIs(is_name(" " + word), False)
            self.assertIs(is_name(word.upper()), False)

    def test_lengths(self):
        for many, fits in ((0, False), (1, True), (2, True), (11, True), (12, True), (13, False), (40, False)):
            self.assertIs(is_name("a" * many), fits, many)
            self.assertIs(is_name(("b" + "7" * many)[:many]), fits, many)

    def test_every_sign_at_every_place(self):
        for sign in SIGNS:
            self.assertIs(is_name(sign), sign in SMALL, repr(sign))
            for place in range(5):
                text = "bcdef"[:place] + sign + "bcdef"[place + 1:]
                fits = sign in SMALL or sign in FIGURES and place > 0
                self.assertIs(is_name(text), fits, repr(text))
            self.assertIs(is_name("abcdefghijk" + sign), sign in SMALL + FIGURES, repr(sign))

    def test_a_figure_first(self):
        for figure in FIGURES:
            self.assertIs(is_name(figure), False)
            self.assertIs(is_name(figure + "a"), False)
            self.assertIs(is_name("a" + figure), True)

    def test_blanks_and_line_feeds_round_a_name(self):
        for text in (" a", "a ", "a b", "\na", "a\n", "a\nb", " ", "\n"):
            self.assertIs(is_name(text), False, repr(text))


class ChartTest(unittest.TestCase):
    def setUp(self):
        self.way = (0, "go", (("<", (0, 1), (-1, 2)),), (("call", "a"),), 1, "near")
        self.parts = ([("a", 1)], ["m", "n"], chain(2), [(("call", "x"),), ()], [(), (("call", "y"),)], [self.way])

    def test_fields_are_as_handed_in(self):
        chart = Chart(*self.parts)
        told = (chart.boxes, chart.names, chart.tree, chart.ins, chart.outs, chart.ways)
        self.assertEqual(told[:2] + told[3:], self.parts[:2] + self.parts[3:])
        self.assertEqual([type(part) for part in told[:2] + told[3:]], [list] * 5)
        self.assertEqual((chart.tree.kinds, chart.tree.elders, chart.tree.starts), (["one", "leaf"], [-1, 0], [1, -1]))

    def test_fields_by_the_names_of_the_arguments(self):
        boxes, names, tree, ins, outs, ways = self.parts
        chart = Chart(ways=ways, outs=outs, ins=ins, tree=tree, names=names, boxes=boxes)
        self.assertEqual(spelled(chart), spelled(Chart(*self.parts)))

    def test_lists_are_its_own(self):
        chart = Chart(*self.parts)
        before = spelled(chart)
        for part in self.parts[:2] + self.parts[3:]:
            part.append("more")
            part.pop(0)
        self.assertEqual(spelled(chart), before)
        self.assertEqual((signs(chart), firsts(chart)), (["go"], [1]))

    def test_nothing_is_looked_at(self):
        chart = Chart([], ["IN"], wide(3), [], [()] * 9, [(9, "?", (), (), 9, "old")])
        self.assertEqual(chart.names, ["IN"])
        self.assertEqual(len(chart.outs), 9)


class SignsTest(unittest.TestCase):
    def chart(self, names):
        return chart_of(wide(3), ways=[(1, name, (), (), -1, "new") for name in names])

    def test_each_once_in_the_order_of_the_first_ways(self):
        for names, fitting in (
            ([], []),
            (["a"], ["a"]),
            (["b", "a"], ["b", "a"]),
            (["b", "a", "b"], ["b", "a"]),
            (["c", "c", "a", "b", "a", "c", "d"], ["c", "a", "b", "d"]),
        ):
            chart = self.chart(names)
            told = signs(chart)
            self.assertIs(type(told), list)
            self.assertEqual(told, fitting)
            told.append("x")
            self.assertEqual(signs(chart), fitting)

    def test_called_signs_are_none_of_its_signs(self):
        way = (1, "go", (), (("call", "other"),), -1, "new")
        self.assertEqual(signs(chart_of(wide(3), ways=[way], ins={0: [("call", "third")]})), ["go"])


class FirstsTest(unittest.TestCase):
    def test_in_the_order_of_the_boxes(self):
        thirty = 10 ** 29 + 3
        for numbers in ([], [0], [3, 1, 2, 1], [-4, 0, -1], [thirty, -thirty, 10 ** 30 - 1]):
            chart = chart_of(chain(2), [(f"b{place}", number) for place, number in enumerate(numbers)])
            told = firsts(chart)
            self.assertIs(type(told), list)
            self.assertEqual(told, numbers)
            told.append(7)
            self.assertEqual(firsts(chart), numbers)


if __name__ == "__main__":
    unittest.main()
