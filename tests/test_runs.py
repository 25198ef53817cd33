"""Runs of charts: points [39] to [41], with [26] to [28] and [4]."""

import random
import unittest

from helper import drawn_chart, spelled
from moodtree.chart import firsts
from moodtree.errors import NoStep
from moodtree.journal import performed, walked, walked_back
from moodtree.choosing import kept, picks
from moodtree.moving import begun, moved
from moodtree.nested import NestRun
from moodtree.reading import read
from moodtree.runner import Runner


def sign(name):
    return ("sign", name)


class FeedTest(unittest.TestCase):
    def test_a_run_is_a_runner(self):
        self.assertIsInstance(NestRun(read("leaf m")), Runner)

    def test_the_beginning(self):
        run = NestRun(read("box x 4\none m o\n in put x x+1\n leaf n\n leaf o\n  in say w x"))
        self.assertEqual(run.story(), [("in", 0), ("put", 0, 4, 5), ("in", 2), ("say", "w", 5)])
        self.assertEqual((run.fed(), run.moods(), run.numbers()), (0, [0, 2], [5]))
        self.assertEqual(run.state(), ([0, 2], [-1, -1, -1], [5]))

    def test_a_feed_that_no_way_goes_at(self):
        run = NestRun(read("leaf m\n on go if 1 < 0 to m\n on other if shut m"))
        for name in ("go", "other", "none", "abcdefghijkl", "z9"):
            self.assertEqual(run.feed(name), [sign(name)])
        self.assertEqual(run.fed(), 5)
        self.assertEqual(run.moods(), [0])

    def test_a_feed_of_one_move(self):
        run = NestRun(read("box x 1\none m n\n leaf n\n  out say w x\n  on go do put x x+1 to o\n leaf o\n  in say w x"))
        rows = [sign("go"), ("out", 1), ("say", "w", 1), ("way", 0), ("put", 0, 1, 2), ("in", 2), ("say", "w", 2)]
        self.assertEqual(run.feed("go"), rows)
        self.assertEqual(run.story(), [("in", 0), ("in", 1)] + rows)
        self.assertEqual(run.state(), ([0, 2], [-1, -1, -1], [2]))

    def test_asks_are_asked_of_the_boxes_ahead_of_any_deed_of_the_step(self):
        run = NestRun(read("box x 0\nall m\n leaf n\n  on go if x = 0 do put x 1\n leaf o\n  on go if x = 0 do say w x"))
        self.assertEqual(run.feed("go"), [sign("go"), ("way", 0), ("put", 0, 0, 1), ("way", 1), ("say", "w", 1)])
        self.assertEqual(run.feed("go"), [sign("go")])

    def test_a_feed_of_several_moves_by_calls(self):
        run = NestRun(read("one m n\n leaf n\n  on a do call b then call c to o\n leaf o\n  on b do call d to n\n  on c to n\n"
                           "  on d\n leaf p"))
        self.assertEqual(run.feed("a"), [
            sign("a"), ("out", 1), ("way", 0), ("call", "b"), ("call", "c"), ("in", 2),
            sign("b"), ("out", 2), ("way", 1), ("call", "d"), ("in", 1),
            sign("c"),
            sign("d"),
        ])
        self.assertEqual(run.moods(), [0, 1])
        self.assertEqual(run.fed(), 1)

    def test_calls_of_a_move_wait_in_the_order_of_its_script(self):
        run = NestRun(read("one m n\n leaf n\n  out call x1\n  on a do call x2 to o\n leaf o\n  in call x3"))
        rows = run.feed("a")
        self.assertEqual([row for row in rows if row[0] == "sign"], [sign("a"), sign("x1"), sign("x2"), sign("x3")])

    def test_calls_of_ways_that_stay(self):
        run = NestRun(read("leaf m\n on a do call b then call c\n on b do call d\n on c do say w 1"))
        self.assertEqual(run.feed("a"), [
            sign("a"), ("way", 0), ("call", "b"), ("call", "c"), sign("b"), ("way", 1), ("call", "d"),
            sign("c"), ("way", 2), ("say", "w", 1), sign("d"),
        ])


class RestTest(unittest.TestCase):
    def test_eight_signs_and_none_let_go(self):
        calls = " then ".join(f"call c{place}" for place in range(7))
        run = NestRun(read(f"leaf m\n on a do {calls}"))
        rows = run.feed("a")
        self.assertEqual([row[1] for row in rows if row[0] == "sign"], ["a"] + [f"c{place}" for place in range(7)])
        self.assertEqual(rows[-1], sign("c6"))

    def test_one_more_than_eight(self):
        calls = " then ".join(f"call c{place}" for place in range(8))
        run = NestRun(read(f"leaf m\n on a do {calls}"))
        rows = run.feed("a")
        self.assertEqual([row[1] for row in rows if row[0] == "sign"], ["a"] + [f"c{place}" for place in range(7)])
        self.assertEqual(rows[-1], ("rest", 1))

    def test_calls_without_end(self):
        run = NestRun(read("box x 0\nleaf m\n on a do put x x+1 then call a"))
        rows = run.feed("a")
        self.assertEqual(rows, [
            row for place in range(8) for row in (sign("a"), ("way", 0), ("put", 0, place, place + 1), ("call", "a"))
        ] + [("rest", 1)])
        self.assertEqual(run.numbers(), [8])
        self.assertEqual(run.feed("b"), [sign("b")])
        self.assertEqual(run.feed("a")[-1], ("rest", 1))
        self.assertEqual(run.numbers(), [16])

    def test_calls_that_grow(self):
        run = NestRun(read("leaf m\n on a do call a then call a then call b"))
        rows = run.feed("a")
        self.assertEqual([row[1] for row in rows if row[0] == "sign"], list("aaabaaba"))
        # Six signs of a called eighteen; seven were dealt with besides the one that was fed.
        self.assertEqual(rows[-1], ("rest", 11))

    def test_calls_at_the_beginning(self):
        run = NestRun(read("box x 0\none m n\n in call a\n leaf n\n  in call b\n  on a do put x x+1 to o\n leaf o\n  on b do say w x"))
        self.assertEqual(run.story(), [
            ("in", 0), ("call", "a"), ("in", 1), ("call", "b"),
            sign("a"), ("out", 1), ("way", 0), ("put", 0, 0, 1), ("in", 2),
            sign("b"), ("way", 1), ("say", "w", 1),
        ])
        self.assertEqual((run.fed(), run.moods(), run.numbers()), (0, [0, 2], [1]))
        with self.assertRaises(NoStep):
            run.back()

    def test_more_than_eight_calls_at_the_beginning(self):
        for many in (7, 8, 9, 12):
            calls = "".join(f"\n in call c{place}" for place in range(many))
            rows = NestRun(read(f"leaf m{calls}")).story()
            fitting = [("in", 0)] + [("call", f"c{place}") for place in range(many)]
            fitting += [sign(f"c{place}") for place in range(min(many, 8))]
            fitting += [("rest", many - 8)] if many > 8 else []
            self.assertEqual(rows, fitting)

    def test_calls_at_the_beginning_without_end(self):
        run = NestRun(read("box x 0\nleaf m\n in call a\n on a do put x x+1 then call a"))
        self.assertEqual(run.story()[-1], ("rest", 1))
        self.assertEqual(run.numbers(), [8])


class BackTest(unittest.TestCase):
    TEXT = """box x 0
one m n
 on jump to p
 one n o
  leaf o
   on go do put x x+1 then call more to o2
  leaf o2
   on go do put x x+100 to o
 leaf p
  on home to n near"""

    def stand(self, run):
        return (run.state(), run.moods(), run.numbers(), run.fed(), run.story())

    def test_back_over_several_feeds(self):
        run = NestRun(read(self.TEXT))
        stands = [self.stand(run)]
        told = []
        for name in ("go", "jump", "home", "none", "go", "go", "jump"):
            told.append(run.feed(name))
            stands.append(self.stand(run))
        self.assertEqual(run.fed(), 7)
        self.assertEqual(run.state()[1][1], 3)
        while told:
            self.assertEqual(self.stand(run), stands.pop())
            self.assertEqual(run.back(), told.pop())
        self.assertEqual(self.stand(run), stands[0])
        for _ in range(3):
            with self.assertRaises(NoStep):
                run.back()
            self.assertEqual(self.stand(run), stands[0])

    def test_a_feed_behind_steps_back(self):
        run = NestRun(read(self.TEXT))
        first = run.feed("go")
        run.feed("jump")
        run.feed("home")
        run.back()
        run.back()
        other = NestRun(read(self.TEXT))
        self.assertEqual(other.feed("go"), first)
        self.assertEqual(run.feed("go"), other.feed("go"))
        self.assertEqual(self.stand(run), self.stand(other))

    def test_no_step_at_once(self):
        run = NestRun(read("leaf m\n in call a"))
        with self.assertRaises(NoStep):
            run.back()
        self.assertEqual(run.story(), [("in", 0), ("call", "a"), sign("a")])


class OwnTest(unittest.TestCase):
    def test_what_is_told_is_the_askers_own(self):
        chart = read(BackTest.TEXT)
        before = spelled(chart)
        run = NestRun(chart)
        fed = run.feed("go")
        fitting = (list(fed), run.story(), run.numbers(), run.moods(), run.state())
        for spoilt in (fed, run.story(), run.numbers(), run.moods()) + run.state():
            self.assertIs(type(spoilt), list)
            spoilt.append(77)
            spoilt[0] = 88
        self.assertEqual((run.story(), run.numbers(), run.moods(), run.state()), fitting[1:])
        told = run.back()
        self.assertEqual(told, fitting[0])
        told.append(77)
        self.assertEqual(run.feed("go"), fitting[0])
        self.assertEqual((run.story(), run.numbers(), run.moods(), run.state()), fitting[1:])
        self.assertEqual(spelled(chart), before)

    def test_what_was_told_does_not_follow(self):
        run = NestRun(read(BackTest.TEXT))
        run.feed("go")
        held = (run.story(), run.numbers(), run.moods(), run.state())
        as_told = (list(held[0]), list(held[1]), list(held[2]), tuple(list(part) for part in held[3]))
        rows = run.feed("jump")
        rows_told = list(rows)
        run.feed("home")
        run.back()
        run.back()
        run.back()
        self.assertEqual(held, as_told)
        self.assertEqual(rows, rows_told)

    def test_two_runs_of_one_chart(self):
        chart = read(BackTest.TEXT)
        one, other, third = NestRun(chart), NestRun(chart), NestRun(chart)
        one.feed("go")
        one.feed("jump")
        self.assertEqual(other.state(), third.state())
        self.assertEqual(other.story(), third.story())
        other.feed("go")
        one.back()
        self.assertEqual(one.state(), other.state())
        self.assertEqual((one.fed(), other.fed(), third.fed()), (1, 1, 0))


class MemoryTest(unittest.TestCase):
    """[26] to [28] in a run."""

    TEXT = """one m n
 one n a
  on out1 to z
  leaf a
   on step to b
  one b c
   leaf c
    on step to d
   leaf d
 leaf z
  on plain to n
  on closer to n near
  on farther to n far"""
    # 0 m, 1 n, 2 a, 3 b, 4 c, 5 d, 6 z

    def behind(self, *names):
        run = NestRun(read(self.TEXT))
        for name in names:
            run.feed(name)
        return run.moods()

    def test_never_left(self):
        self.assertEqual(self.behind("step", "step"), [0, 1, 3, 5])

    def test_modes(self):
        self.assertEqual(self.behind("step", "step", "out1", "plain"), [0, 1, 2])
        self.assertEqual(self.behind("step", "step", "out1", "closer"), [0, 1, 3, 4])
        self.assertEqual(self.behind("step", "step", "out1", "farther"), [0, 1, 3, 5])

    def test_the_last_leaving_counts(self):
        self.assertEqual(self.behind("step", "step", "out1", "plain", "out1", "farther"), [0, 1, 2])
        self.assertEqual(self.behind("step", "step", "out1", "plain", "step", "out1", "farther"), [0, 1, 3, 4])

    def test_keep_rows(self):
        run = NestRun(read(self.TEXT))
        run.feed("step")
        run.feed("step")
        self.assertEqual(run.feed("out1"), [
            sign("out1"), ("out", 5), ("out", 3), ("keep", 3, -1, 5), ("out", 1), ("keep", 1, -1, 3), ("way", 0), ("in", 6),
        ])
        run.feed("closer")
        self.assertEqual(run.feed("out1"), [
            sign("out1"), ("out", 4), ("out", 3), ("keep", 3, 5, 4), ("out", 1), ("keep", 1, 3, 3), ("way", 0), ("in", 6),
        ])
        self.assertEqual(run.state()[1], [-1, 3, -1, 4, -1, -1, -1])


class ManyRunsTest(unittest.TestCase):
    NAMES = ("go", "a", "b", "sign", "z9", "other")

    def fitting(self, chart, name, state):
        """The rows of a feed and the state behind it, by the words of [39]."""
        opens, memory, boxes = state
        waiting, rows, dealt = [name], [], 0
        while waiting and dealt < 8:
            first, waiting = waiting[0], waiting[1:]
            dealt += 1
            ways = kept(chart, picks(chart, opens, boxes, first))
            script, opens, memory = moved(chart, opens, memory, ways)
            boxes, journal, called = performed(script, boxes)
            rows += [sign(first)] + journal
            waiting += called
        return rows + ([("rest", len(waiting))] if waiting else []), (opens, memory, boxes)

    def test_feeds_and_steps_back(self):
        for seed in range(250):
            chart = drawn_chart(seed, 12, 10, numbers=(0, 1, 2, -1))
            before = spelled(chart)
            draw = random.Random(f"feeds {seed}")
            run = NestRun(chart)
            empty = ([], [-1] * len(chart.names), firsts(chart))
            self.assertEqual(run.story()[:len(begun(chart)[0])], performed(begun(chart)[0], firsts(chart))[1])
            stands = []
            for _ in range(15):
                if draw.random() < 0.25 and stands:
                    state, rows, story = stands.pop()
                    self.assertEqual(run.back(), rows)
                    self.assertEqual((run.state(), run.story()), (state, story))
                else:
                    state, story = run.state(), run.story()
                    name = draw.choice(self.NAMES)
                    rows = run.feed(name)
                    self.assertEqual((rows, run.state()), self.fitting(chart, name, state))
                    self.assertEqual(walked(rows, state), run.state())
                    self.assertEqual(walked_back(rows, run.state()), state)
                    self.assertEqual(run.story(), story + rows)
                    stands.append((state, rows, story))
                self.assertEqual(run.fed(), len(stands))
                self.assertEqual((run.moods(), run.numbers()), (run.state()[0], run.state()[2]))
                self.assertEqual(walked(run.story(), empty), run.state())
            self.assertEqual(spelled(chart), before)


if __name__ == "__main__":
    unittest.main()
