"""Lines and tales: point [51], and [4]."""

import random
import unittest

from helper import chain, chart_of, drawn_chart, spelled
from moodtree.errors import BadName, BadRow, BadTree, NoName, TooWide
from moodtree.nested import NestRun
from moodtree.reading import read
from moodtree.tale import line_of, tale
from moodtree.writing import shown

TEXT = """box x 0
box y -3
one m n
 in put x 5
 one n a
  on jump to o
  leaf a
   out say w y-1
   on go if x = 5 do put y x+10 then call more to b
  leaf b
   on more do say w y
 leaf o
  on home to n near"""

LINES = [
    "in m", "put x 0 5", "in n", "in a",
    "sign go", "out a", "say w -4", "way 1", "put y -3 15", "call more", "in b", "sign more", "way 2", "say w 15",
    "sign none",
    "sign jump", "out b", "out n", "keep n b", "way 0", "in o",
    "sign home", "out o", "way 3", "in n", "in b",
]


class LineTest(unittest.TestCase):
    def check(self, chart, row, line):
        before = spelled(chart)
        answer = line_of(chart, row)
        self.assertIs(type(answer), str)
        self.assertEqual(answer, line)
        self.assertEqual(spelled(chart), before)

    def test_each_kind_of_row(self):
        chart = read(TEXT)
        for row, line in (
            (("sign", "go"), "sign go"),
            (("out", 0), "out m"),
            (("out", 4), "out o"),
            (("keep", 1, -1, 3), "keep n b"),
            (("keep", 1, 3, 2), "keep n a"),
            (("keep", 1, 2, 2), "keep n a"),
            (("way", 0), "way 0"),
            (("way", 12), "way 12"),
            (("in", 2), "in a"),
            (("put", 0, 5, -7), "put x 5 -7"),
            (("put", 1, 0, 0), "put y 0 0"),
            (("call", "go"), "call go"),
            (("say", "w", 0), "say w 0"),
            (("say", "x", -12), "say x -12"),
            (("rest", 3), "rest 3"),
        ):
            self.check(chart, row, line)

    def test_rows_that_no_run_could_tell(self):
        chart = chart_of(chain(3), [("a", 0), ("b", 0)])
        for row, line in (
            (("keep", 2, 0, 0), "keep m2 m0"),
            (("keep", 0, 1, 2), "keep m0 m2"),
            (("keep", 1, 99, 1), "keep m1 m1"),
            (("way", 99), "way 99"),
            (("way", -1), "way -1"),
            (("rest", 0), "rest 0"),
            (("rest", -5), "rest -5"),
            (("sign", "in"), "sign in"),
            (("sign", "m0"), "sign m0"),
            (("call", "put"), "call put"),
            (("say", "b", 1), "say b 1"),
            (("put", 1, 10 ** 100, -(10 ** 100)), "put b 1" + "0" * 100 + " -1" + "0" * 100),
            (("say", "w", 10 ** 3999), "say w 1" + "0" * 3999),
        ):
            self.check(chart, row, line)

    def test_names_of_boxes_and_moods_that_are_the_same(self):
        chart = read("box n 0\nbox m 0\nall m\n leaf n")
        self.check(chart, ("put", 0, 1, 2), "put n 1 2")
        self.check(chart, ("in", 0), "in m")
        self.check(chart, ("out", 1), "out n")


class TaleTest(unittest.TestCase):
    def check(self, text, names, fitting):
        for most in (0, 60, 200):
            for handed in (list(names), tuple(names)):
                answer = tale(text, handed, most)
                self.assertIs(type(answer), list)
                self.assertEqual(answer, fitting)
                answer.append("more")
                self.assertEqual(tale(text, handed, most), fitting)
                self.assertEqual(list(handed), list(names))

    def test_a_tale(self):
        self.check(TEXT, ["go", "none", "jump", "home"], LINES)
        self.assertEqual(tale(TEXT, ["go", "none", "jump", "home"]), LINES)
        self.assertEqual(tale(TEXT, []), LINES[:4])
        self.assertEqual(tale(signs=["go"], text=TEXT, most=10), LINES[:14])

    def test_no_signs(self):
        self.check("leaf m", [], ["in m"])
        self.check("leaf m\n in call a", [], ["in m", "call a", "sign a"])

    def test_the_rest(self):
        self.check("leaf m\n on a do call a", ["a"], ["in m"] + ["sign a", "way 0", "call a"] * 8 + ["rest 1"])

    def test_the_bound_is_that_of_the_table(self):
        ring = "one m n0\n" + "\n".join(f" leaf n{place}\n  on s to n{(place + 1) % 70}" for place in range(70))
        fitting = ["in m", "in n0", "sign s", "out n0", "way 0", "in n1"]
        self.assertEqual(tale(ring, ["s"]), fitting)
        self.assertEqual(tale(ring, ["s"], 0), fitting)
        self.assertEqual(tale(ring, ["s"], 70), fitting)
        for most in (1, 60, 69):
            with self.assertRaises(TooWide):
                tale(ring, ["s"], most)

    def test_refusals_as_read_tells_them(self):
        for most in (0, 1, 60):
            for text, refusal, row in (
                ("", BadRow, 1), ("leaf m\n on", BadRow, 2), ("leaf m\n on s to n", NoName, 2),
                ("one m m\n leaf n", BadTree, None), ("all m\n leaf m", BadName, None),
            ):
                with self.assertRaises(refusal) as caught:
                    tale(text, ["s"], most)
                self.assertIs(type(caught.exception), refusal)
                if row:
                    self.assertEqual(caught.exception.row, row)

    def test_many_charts(self):
        told = 0
        for seed in range(200):
            chart = drawn_chart(f"tale {seed}", 10, 9)
            text = shown(chart)
            draw = random.Random(f"tale {seed}")
            names = [draw.choice(("go", "a", "b", "sign", "z9", "x")) for _ in range(8)]
            run = NestRun(chart)
            rows = run.story()
            for name in names:
                rows += run.feed(name)
            lines = tale(text, names)
            self.assertEqual(lines, [line_of(chart, row) for row in rows])
            try:
                self.assertEqual(tale(text, names, 100), lines)
                told += 1
            except TooWide:
                pass
        self.assertGreater(told, 120)


if __name__ == "__main__":
    unittest.main()
