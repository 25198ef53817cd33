"""Charts written and texts read: points [21] to [24] with [3]."""

import unittest

from helper import ALL, LEAF, ONE, chain, chart_of, drawn_chart, spelled, tree_of, wide
from moodtree.errors import BadBox, BadName, BadRow, BadTree, NoName
from moodtree.reading import read
from moodtree.writing import shown

THIRTY = 10 ** 30 - 1

# Every form of row, deed, ask, term, number, target and mode.
TEXT = f"""box x 0
box y -12
box long0long9ab {THIRTY}
box z -{THIRTY}
one m0 m2
 in put x 5
 in call go
 out say word x+1
 on go
 leaf m1
 all m2
  in say w -3
  out put y y-{THIRTY}
  out call m0
  on go if x < 3 do put x x+1 to m1
  one m3 m4
   leaf m4
    out say w 0
    on b if y-1 <= z+{THIRTY} and 0 = -{THIRTY} and x != y and open m0 and shut m5 to m3 near
   leaf m5
  leaf m6
   on a if open m1 do say w x then call b then put z 0 to m0 far
   on a do call a
   on a to m6
 leaf m7
  in put x z"""


def text_chart():
    tree = tree_of([
        (ONE, -1, 2), (LEAF, 0, -1), (ALL, 0, -1), (ONE, 2, 4), (LEAF, 3, -1), (LEAF, 3, -1), (LEAF, 2, -1),
        (LEAF, 0, -1),
    ])
    ins = {
        0: [("put", 0, (-1, 5)), ("call", "go")],
        2: [("say", "w", (-1, -3))],
        7: [("put", 0, (3, 0))],
    }
    outs = {
        0: [("say", "word", (0, 1))],
        2: [("put", 1, (1, -THIRTY)), ("call", "m0")],
        4: [("say", "w", (-1, 0))],
    }
    asks = (("<=", (1, -1), (3, THIRTY)), ("=", (-1, 0), (-1, -THIRTY)), ("!=", (0, 0), (1, 0)),
            ("open", 0), ("shut", 5))
    deeds = (("say", "w", (0, 0)), ("call", "b"), ("put", 3, (-1, 0)))
    ways = [
        (0, "go", (), (), -1, "new"),
        (2, "go", (("<", (0, 0), (-1, 3)),), (("put", 0, (0, 1)),), 1, "new"),
        (4, "b", asks, (), 3, "near"),
        (6, "a", (("open", 1),), deeds, 0, "far"),
        (6, "a", (), (("call", "a"),), -1, "new"),
        (6, "a", (), (), 6, "new"),
    ]
    boxes = [("x", 0), ("y", -12), ("long0long9ab", THIRTY), ("z", -THIRTY)]
    return chart_of(tree, boxes, ways, ins, outs)


class ShownTest(unittest.TestCase):
    def test_every_form(self):
        self.assertEqual(shown(text_chart()), TEXT)
        self.assertFalse(TEXT.endswith("\n"))

    def test_small_charts(self):
        self.assertEqual(shown(chart_of(chain(1))), "leaf m0")
        self.assertEqual(shown(chart_of(chain(1), [("a", -1)])), "box a -1\nleaf m0")
        self.assertEqual(shown(chart_of(chain(3))), "one m0 m1\n one m1 m2\n  leaf m2")
        self.assertEqual(shown(chart_of(wide(2))), "all m0\n leaf m1\n leaf m2")

    def test_a_way_of_each_part_alone(self):
        for way, row in (
            ((0, "s", (), (), -1, "new"), "on s"),
            ((0, "s", (("open", 0),), (), -1, "new"), "on s if open m0"),
            ((0, "s", (("shut", 0), ("open", 0)), (), -1, "new"), "on s if shut m0 and open m0"),
            ((0, "s", (), (("call", "c"),), -1, "new"), "on s do call c"),
            ((0, "s", (), (("call", "c"), ("call", "d")), -1, "new"), "on s do call c then call d"),
            ((0, "s", (), (), 0, "new"), "on s to m0"),
            ((0, "s", (), (), 0, "near"), "on s to m0 near"),
            ((0, "s", (), (), 0, "far"), "on s to m0 far"),
            ((0, "s", (("<", (-1, 1), (-1, 2)),), (("call", "c"),), 0, "far"), "on s if 1 < 2 do call c to m0 far"),
        ):
            chart = chart_of(chain(1), ways=[way])
            self.assertEqual(shown(chart), "leaf m0\n " + row)
            self.assertEqual(spelled(read("leaf m0\n " + row)), spelled(chart))

    def test_terms(self):
        for term, text in (
            ((-1, 0), "0"), ((-1, 7), "7"), ((-1, -7), "-7"), ((-1, THIRTY), str(THIRTY)), ((-1, -THIRTY), str(-THIRTY)),
            ((0, 0), "b"), ((0, 7), "b+7"), ((0, -7), "b-7"), ((0, THIRTY), f"b+{THIRTY}"), ((0, -10), "b-10"),
        ):
            chart = chart_of(chain(1), [("b", 0)], ins={0: [("put", 0, term)]})
            self.assertEqual(shown(chart), f"box b 0\nleaf m0\n in put b {text}")
            self.assertEqual(spelled(read(shown(chart))), spelled(chart))

    def test_nothing_is_changed(self):
        chart = text_chart()
        before = spelled(chart)
        shown(chart)
        self.assertEqual(spelled(chart), before)
        self.assertEqual(shown(chart), TEXT)


class ReadTest(unittest.TestCase):
    def test_every_form(self):
        self.assertEqual(spelled(read(TEXT)), spelled(text_chart()))

    def test_what_is_written_of_many_charts_is_read_to_the_same(self):
        for seed in range(400):
            chart = drawn_chart(seed, 25, 15)
            text = shown(chart)
            told = read(text)
            self.assertEqual(spelled(told), spelled(chart))
            self.assertEqual(shown(told), text)

    def test_each_read_is_the_askers_own(self):
        one = read(TEXT)
        one.names.append("more")
        one.tree.kinds.clear()
        self.assertEqual(spelled(read(TEXT)), spelled(text_chart()))

    def test_depth_twelve_is_let(self):
        text = shown(chart_of(chain(13)))
        self.assertEqual(shown(read(text)), text)

    def test_names_that_are_words_of_the_program_only(self):
        text = "box new 1\none sign out2\n leaf out2\n  on keep do say way new to out2 near"
        self.assertEqual(shown(read(text)), text)


# Rows that are of no form wherever they stand; behind a leaf `m` with a box `b` ahead.
NO_DEEDS = (
    "", " ", "put", "put b", "put b ", "put  b 1", "put b  1", "put b 1 ", "put b 1 2", "put b 1 then", "put 1 b",
    "put in 1", "put B 1", "put b b+", "put b b-", "put b +1", "put b b+0", "put b b-0", "put b b+01", "put b b-01",
    "put b b+1+1", "put b b-1-1", "put b b+1-1", "put b b-1+1", "put b b+-1", "put b b--1", "put b b+b", "put b 01",
    "put b 00", "put b -0", "put b -00", "put b -01", "put b --1", "put b -", "put b +", "put b 1a", "put b 1+1",
    "put b 1" + "0" * 30, "put b -1" + "0" * 30, "put b b+1" + "0" * 30, "put b b-1" + "0" * 30, "put b in+1",
    "put b b +1", "put b b+ 1", "put b 1-", "put b b1+", "put b open", "put b " + "a" * 13, "put b " + "a" * 13 + "+1",
    "put b b+1.", "put b ^", "put b b=1",
    "call", "call ", "call  go", "call go ", "call go go", "call in", "call Go", "call 1", "call b+1", "call " + "a" * 13,
    "say", "say w", "say w ", "say  w 1", "say w  1", "say w 1 1", "say in 1", "say W 1", "say w 1.5", "say 1 w",
    "say " + "a" * 13 + " 1", "put b 1 do call go", "Put b 1", "sing w 1", "PUT b 1", "in call go",
)
NO_ASKS = (
    "", " ", "b", "b <", "b < ", "< b", "b < b < b", "b  < b", "b <  b", "b < b ", "b > b", "b >= b", "b == b",
    "b<b", "b < 01", "b < -0", "-0 < b", "b+0 < b", "b < b-0", "b => b", "b =! b", "open", "open ", "open  m",
    "open m m", "open in", "open M", "open 1", "open m+1", "shut", "shut m ", "shut m m", "shut to", "opened m",
    "b < " + "a" * 13, "and b < b", "b < b and", "b < b if b < b", "b < b, b < b", "not open m", "in < b", "b < near",
    "b = 1" + "0" * 30, "open " + "a" * 13,
)
NO_ENDS = (
    "to", "to ", "to  m", "to m ", "to m new", "to m  near", "to m near ", "to m near far", "to m near near", "to in",
    "to near", "to M", "to m m", "to m to m", "near", "far", "m", "to m far if b < b", "to m do call go", "to m near do",
    "to 1", "to " + "a" * 13, "then call go", "and b < b", "do call go do call go", "do call go if b < b", "if", "do",
    "do call go and b < b", "if b < b then call go", "if b < b if b < b", "on go", "do call go then", "if b < b and",
    "in call go", "do call go to", "if b < b to", "if to m", "do to m", "new", "if b < b do", "do call go then to m",
)
NO_ROWS = (
    ["", " ", "  ", "m", "leaf", "leaf ", "leaf  n", "leaf n ", "leaf n n", "leaf in", "leaf N", "leaf 1", "all",
     "all n n", "all to", "one", "one n", "one n ", "one n  m", "one n m m", "one n in", "one in m", "one n M", "Leaf n",
     "leafn", "two n m", "box", "leaf " + "a" * 13, "one " + "a" * 13 + " m", "one m " + "a" * 13, "all " + "a" * 13,
     "in", "out", "on", "on ", "on  go", "on go ", "on in", "on Go", "on 1", "on go go", "on " + "a" * 13, "# go"]
    + ["in " + deed for deed in NO_DEEDS] + ["out " + deed for deed in NO_DEEDS]
    + ["on go do " + deed for deed in NO_DEEDS] + ["on go do call a then " + deed for deed in NO_DEEDS]
    + ["on go if " + ask for ask in NO_ASKS] + ["on go if b < b and " + ask for ask in NO_ASKS]
    + ["on go " + end for end in NO_ENDS]
)
NO_NUMBERS = ("", "00", "01", "-0", "-00", "-01", "+1", "--1", "-", "1a", "1.0", "1_0", " 1", "1 ", "b", "1" + "0" * 30,
              "-1" + "0" * 30, "1 1", "0x1", "a+1", "1e3")


class BadRowTest(unittest.TestCase):
    def check(self, text, row, refusal=BadRow):
        with self.assertRaises(refusal, msg=text) as caught:
            read(text)
        self.assertIs(type(caught.exception), refusal, text)
        self.assertEqual(caught.exception.row, row, text)

    def test_rows_of_no_form(self):
        for row in NO_ROWS:
            self.check(f"box b 0\nleaf m\n {row}", 3)
            self.check(f"box b 0\nleaf m\n {row}\nnone", 3)
            self.check(f"box b 0\nleaf m\n {row}\n on go", 3)
            self.check(row, 1)

    def test_the_same_rows_in_a_right_form(self):
        # So that what is refused above is refused for its form.
        for row in ("in put b 1", "out put b b+1", "in say w -1", "on go if b < b and open m do call a then put b 0 to m",
                    "on go if b < b to m near", "on go do call go to m far", "on go"):
            read(f"box b 0\nleaf m\n {row}")

    def test_box_rows(self):
        for number in NO_NUMBERS:
            self.check(f"box a 1\nbox b {number}\nleaf m", 2)
        for name in ("", "in", "B", "1", "a" * 13, "b+1", "b b"):
            self.check(f"box {name} 1\nleaf m", 1)
        for row in ("box", "box ", "box b", "box  b 1", "box b  1", " box b 1", "Box b 1", "boxb 1"):
            self.check(f"{row}\nleaf m", 1)

    def test_empty_texts_and_rows(self):
        self.check("", 1)
        self.check("\n", 1)
        self.check(" ", 1)
        self.check("\nleaf m", 1)
        self.check("leaf m\n", 2)
        self.check("box b 0\n\nleaf m", 2)
        self.check("all m\n leaf n\n\n leaf o", 3)
        self.check("all m\n leaf n\n ", 3)

    def test_rows_that_may_not_stand_where_they_stand(self):
        for text, row in (
            ("leaf m\nbox b 0", 2),
            ("all m\n leaf n\nbox b 0", 3),
            ("all m\n box b 0\n leaf n", 2),
            ("in call go\nleaf m", 1),
            (" in call go\nleaf m", 1),
            ("out call go\nleaf m", 1),
            ("on go\nleaf m", 1),
            (" on go\nleaf m", 1),
            ("box b 0\non go\nleaf m", 2),
            (" leaf m", 1),
            ("  leaf m", 1),
            ("box b 0\n leaf m", 2),
            ("leaf m\nleaf n", 2),
            ("all m\n leaf n\nleaf o", 3),
            ("all m\n  leaf n", 2),
            ("all m\n all n\n    leaf o", 3),
            ("all m\n leaf n\n  on go\n   on go\n leaf o", 4),
            ("all m\n leaf n\n    leaf o", 3),
            ("leaf m\non go", 2),
            ("leaf m\n  on go", 2),
            ("all m\n leaf n\n on go", 3),
            ("all m\n leaf n\n   in call go", 3),
            ("all m\n leaf n\nout call go", 3),
            ("leaf m\n out call go\n in call go", 3),
            ("leaf m\n on go\n in call go", 3),
            ("leaf m\n on go\n out call go", 3),
            ("leaf m\n in call go\n out call go\n on go\n out call go", 5),
            ("leaf m\n in call go\n out call go\n in call go\n on go", 4),
            ("all m\n leaf n\n  on go\n in call go", 4),
        ):
            self.check(text, row)

    def test_own_rows_of_the_next_mood_begin_anew(self):
        read("all m\n on go\n leaf n\n  in call go\n  out call go\n  on go\n leaf o\n  in call go")

    def test_moods_may_rise_by_several_steps(self):
        read("all m\n all n\n  all o\n   leaf p\n leaf q")

    def test_the_first_bad_row_is_told(self):
        for place in range(1, 26):
            rows = TEXT.split("\n")
            rows[place - 1] += " "
            self.check("\n".join(rows), place)
            self.check("\n".join(rows) + "\nnone", place)

    def test_blanks_more_fewer_and_doubled_in_every_row(self):
        rows = TEXT.split("\n")
        for place, row in enumerate(rows):
            for sign, letter in enumerate(row):
                if letter == " " and row[:sign].strip():
                    doubled = row[:sign] + " " + row[sign:]
                    self.check("\n".join(rows[:place] + [doubled] + rows[place + 1:]), place + 1)
                    # Without its blank a target's mode is the end of another name.
                    if row[sign:] not in (" near", " far"):
                        joined = row[:sign] + row[sign + 1:]
                        self.check("\n".join(rows[:place] + [joined] + rows[place + 1:]), place + 1)


class NoNameTest(unittest.TestCase):
    def check(self, text, row):
        BadRowTest.check(self, text, row, NoName)

    def test_each_place_of_a_name(self):
        for text, row in (
            ("one m n\n leaf o", 1),
            ("one m b\n leaf o", 1),
            ("leaf m\n on go to n", 2),
            ("leaf m\n on go to n near", 2),
            ("leaf m\n on go if open n", 2),
            ("leaf m\n on go if shut n", 2),
            ("leaf m\n on go if open m and shut n to m", 2),
            ("leaf m\n in put b 0", 2),
            ("leaf m\n out put b 0", 2),
            ("box a 0\nleaf m\n in put a b", 3),
            ("box a 0\nleaf m\n in put a b+1", 3),
            ("box a 0\nleaf m\n out say w b-1", 3),
            ("box a 0\nleaf m\n in call go\n on go if a < b", 4),
            ("box a 0\nleaf m\n in call go\n on go if b < a", 4),
            ("box a 0\nleaf m\n on go if a < a and a != b+1", 3),
            ("box a 0\nleaf m\n on go do put a 0 then put b 0", 3),
            ("box a 0\nleaf m\n on go do put a b", 3),
            ("box a 0\nleaf m\n on go do say w b", 3),
        ):
            self.check(text, row)

    def test_names_of_boxes_and_moods_are_free_of_one_another(self):
        self.check("box b 0\nleaf m\n on go to b", 3)
        self.check("box b 0\nleaf m\n on go if open b", 3)
        self.check("box b 0\nleaf m\n in put m 0", 3)
        self.check("box b 0\nleaf m\n in say b m", 3)
        self.assertEqual(read("box m 0\nleaf m\n on m if open m do say m m to m").names, ["m"])

    def test_words_and_signs_are_no_names_of_anything(self):
        read("leaf m\n in call go\n in say w 1\n on other")

    def test_the_first_row_is_told(self):
        self.check("one m m1\n on go to x\n leaf n\n  in put b 0", 1)
        self.check("one m n\n on go to x\n leaf n\n  in put b 0", 2)
        self.check("one m n\n on go to n\n leaf n\n  in put b 0", 4)

    def test_a_row_further_down_may_give_the_name(self):
        chart = read("one m o\n on go to p\n leaf n\n leaf o\n leaf p")
        self.assertEqual(chart.tree.starts, [2, -1, -1, -1])
        self.assertEqual(chart.ways[0][4], 3)

    def test_a_bad_row_further_down_comes_first(self):
        BadRowTest.check(self, "one m x\n leaf n\n  in put b 0\n  in call in", 4)
        BadRowTest.check(self, "one m x\n leaf n\n  in put b 0\n", 4)
        BadRowTest.check(self, "one m x\n leaf n\n  out put b 0\n  in call go", 4)

    def test_it_comes_ahead_of_the_refusals_of_the_chart(self):
        self.check("one m x\n leaf n\n leaf n", 1)
        self.check("box b 0\nbox b 1\nleaf m\n leaf n\n  on go to x", 5)


class RefusedTest(unittest.TestCase):
    def check(self, text, refusal):
        with self.assertRaises(refusal, msg=text) as caught:
            read(text)
        self.assertIs(type(caught.exception), refusal, text)

    def test_trees(self):
        self.check("box b 0", BadTree)
        self.check("box b 0\nbox c 0", BadTree)
        self.check("leaf m\n leaf n", BadTree)
        self.check("one m m", BadTree)
        self.check("all m", BadTree)
        self.check("one m o\n one n o\n  leaf o", BadTree)
        self.check("one m m\n leaf n", BadTree)
        self.check("\n".join(" " * deep + f"one m{deep} m{deep + 1}" for deep in range(13)) + "\n" + " " * 13 + "leaf m13",
                   BadTree)

    def test_a_very_deep_text(self):
        deep = 2000
        rows = [" " * place + f"one m{place} m{place + 1}" for place in range(deep)] + [" " * deep + f"leaf m{deep}"]
        self.check("\n".join(rows), BadTree)

    def test_names_and_boxes(self):
        self.check("all m\n leaf m", BadName)
        self.check("all m\n leaf n\n leaf n", BadName)
        self.check("box b 0\nbox b 0\nleaf m", BadBox)
        self.check("box a 0\nbox b 0\nbox a 1\nleaf m", BadBox)

    def test_their_order(self):
        self.check("box b 0\nbox b 1\none m m\n leaf m", BadTree)
        self.check("box b 0\nbox b 1\nall m\n leaf m", BadName)

    def test_where_two_have_the_same_name_the_first_one_is_meant(self):
        # The start is the first mood of its name: an inner one here, and none there.
        self.check("one m n\n leaf n\n leaf n", BadName)
        self.check("one m n\n one n o\n  leaf o\n leaf n", BadName)
        self.check("one m o\n one n n\n  leaf o\n leaf o", BadTree)
        self.check("all r\n one m n\n  leaf n\n one k n\n  leaf n", BadTree)
        self.check("all r\n leaf n\n one k n\n  leaf n", BadTree)


if __name__ == "__main__":
    unittest.main()
