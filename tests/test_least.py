"""Alike flats, the least table, and how flats are told apart: points [47] to [49], with [44] and [4]."""

import random
import time
import unittest

from helper import ASK, drawn_chart, drawn_table, spelled_table
from moodtree.errors import TooWide
from moodtree.flat import Table, flattened
from moodtree.flatrun import FlatRun
from moodtree.journal import told
from moodtree.least import classes, merged
from moodtree.parting import parted
from moodtree.reading import read


def table_of(rows, names=("s",), begin=()):
    """A table of a dict from each flat and sign to its rows."""
    many = 1 + max(number for number, _ in rows)
    return Table([("x", 0)], names, begin, [((number,), ()) for number in range(many)], rows)


def look(table, number, name):
    return [(tuple(row[0]), told(row[1])) for row in table.rows[(number, name)]]


def distances(table):
    """For each pair of flats how many rows on it is told apart: found from the pairs that are told apart at once."""
    flats = range(len(table.flats))
    found = {}
    for one in flats:
        for other in flats:
            if any(look(table, one, name) != look(table, other, name) for name in table.signs):
                found[(one, other)] = 0
    for deep in range(1, len(table.flats) ** 2 + 1):
        more = []
        for one in flats:
            for other in flats:
                if (one, other) not in found and any(
                        found.get((row[2], also[2]), deep) < deep
                        for name in table.signs
                        for row, also in zip(table.rows[(one, name)], table.rows[(other, name)])):
                    more.append((one, other))
        if not more:
            return found
        for pair in more:
            found[pair] = deep
    return found


def tables():
    for seed in range(400):
        yield drawn_table(seed)
    for seed in range(120):
        try:
            yield flattened(drawn_chart(f"least {seed}", 9, 7, ("a", "b"), (0, 1)), 12)
        except TooWide:
            pass


CHAIN = 40


def chain_table(last):
    """Flats in a row, of which the last ones are told apart: flats 0 and CHAIN only by CHAIN - 1 rows on."""
    rows = {}
    for place in range(CHAIN):
        behind = min(place + 1, CHAIN - 1)
        rows[(place, "s")] = [((), (("call", "end"),) if place == CHAIN - 1 else (), behind)]
        rows[(CHAIN + place, "s")] = [((), last if place == CHAIN - 1 else (), CHAIN + behind)]
    return table_of(rows)


class ClassesTest(unittest.TestCase):
    def check(self, table, fitting):
        before = spelled_table(table)
        answer = classes(table)
        self.assertIs(type(answer), list)
        self.assertEqual(answer, fitting)
        answer.append(77)
        self.assertEqual(classes(table), fitting)
        self.assertEqual(spelled_table(table), before)

    def test_one_flat(self):
        self.check(table_of({(0, "s"): []}), [0])
        self.check(table_of({(0, "s"): [((), (), 0)]}), [0])

    def test_no_signs(self):
        self.check(Table([], [], (), [((0,), ()), ((1,), ())], {}), [0, 0])

    def test_told_apart_by_the_number_of_rows(self):
        self.check(table_of({(0, "s"): [((), (), 0)], (1, "s"): []}), [0, 1])
        self.check(table_of({(0, "s"): [((), (), 0)], (1, "s"): [((), (), 1)] * 2, (2, "s"): [((), (), 2)] * 2}), [0, 1, 1])

    def test_told_apart_by_asks(self):
        self.check(table_of({(0, "s"): [((ASK,), (), 0)], (1, "s"): [((), (), 1)]}), [0, 1])
        self.check(table_of({(0, "s"): [((ASK,), (), 0)], (1, "s"): [((ASK, ASK), (), 1)]}), [0, 1])
        other = ("<", (0, 0), (-1, 4))
        self.check(table_of({(0, "s"): [((ASK, other), (), 0)], (1, "s"): [((other, ASK), (), 1)]}), [0, 1])

    def test_told_apart_by_told_rows(self):
        a, b = ("call", "a"), ("say", "b", (0, 0))
        self.check(table_of({(0, "s"): [((), (a,), 0)], (1, "s"): [((), (), 1)], (2, "s"): [((), (a,), 2)]}), [0, 1, 0])
        self.check(table_of({(0, "s"): [((), (a, b), 0)], (1, "s"): [((), (b, a), 1)]}), [0, 1])
        self.check(table_of({(0, "s"): [((), (a,), 0)], (1, "s"): [((), (a, a), 1)]}), [0, 1])

    def test_row_by_row(self):
        one, other = ((ASK,), (("call", "a"),), 0), ((), (), 0)
        self.check(table_of({(0, "s"): [one, other], (1, "s"): [other, one]}), [0, 1])

    def test_by_one_of_several_signs(self):
        rows = {(number, name): [((), (), 0)] for number in range(3) for name in "stu"}
        rows[(1, "u")] = [((), (("call", "a"),), 0)]
        self.check(table_of(rows, "stu"), [0, 1, 0])

    def test_marks_do_not_tell_apart(self):
        marks = (("out", 1), ("keep", 1, 2, 3), ("way", 5), ("in", 2))
        self.check(table_of({
            (0, "s"): [((), (("call", "a"),), 0)],
            (1, "s"): [((), marks + (("call", "a"),), 0)],
            (2, "s"): [((), (("call", "a"),) + marks, 1)],
        }), [0, 0, 0])

    def test_open_moods_and_memory_do_not_tell_apart(self):
        table = Table([], ["s"], (), [((0,), (1,)), ((), ()), ((0, 5), (-1, -1))],
                      {(number, "s"): [((), (), number)] for number in range(3)})
        self.check(table, [0, 0, 0])

    def test_told_apart_only_many_rows_on(self):
        self.check(chain_table((("call", "end"),)), list(range(CHAIN)) * 2)
        self.check(chain_table((("call", "other"),)), list(range(2 * CHAIN)))
        self.check(chain_table(()), list(range(CHAIN)) + [CHAIN] * CHAIN)

    def test_by_the_next_flat_of_one_row(self):
        rows = {
            (0, "s"): [((ASK,), (), 2), ((), (), 3)],
            (1, "s"): [((ASK,), (), 3), ((), (), 2)],
            (2, "s"): [((), (), 2)],
            (3, "s"): [((), (("call", "a"),), 3)],
            (4, "s"): [((ASK,), (), 2), ((), (), 3)],
        }
        self.check(table_of(rows), [0, 1, 2, 3, 0])

    def test_numbers_by_the_order_of_the_first_flats(self):
        call = {"a": (("call", "a"),), "b": (("call", "b"),), "c": ()}
        for order, fitting in (("aabbc", [0, 0, 1, 1, 2]), ("cabca", [0, 1, 2, 0, 1]), ("bbbb", [0, 0, 0, 0]),
                               ("cba", [0, 1, 2])):
            self.check(table_of({(place, "s"): [((), call[name], 0)] for place, name in enumerate(order)}), fitting)

    def test_flats_that_nothing_leads_to(self):
        rows = {(number, "s"): [((), (), 0)] for number in range(4)}
        rows[(3, "s")] = [((), (("call", "a"),), 0)]
        self.check(table_of(rows), [0, 0, 0, 1])

    def test_many_tables(self):
        alike = 0
        for table in tables():
            apart = distances(table)
            fitting = []
            for number in range(len(table.flats)):
                same = [other for other in range(number) if (number, other) not in apart]
                fitting.append(fitting[same[0]] if same else max(fitting, default=-1) + 1)
                alike += bool(same)
            self.check(table, fitting)
        self.assertGreater(alike, 100)

    def test_the_table_as_it_is_when_it_is_asked(self):
        table = table_of({(0, "s"): [((), (), 0)], (1, "s"): [((), (), 1)]})
        self.check(table, [0, 0])
        table.rows[(1, "s")].append(((), (), 0))
        self.check(table, [0, 1])
        self.assertEqual(parted(table, 0, 1), ([], "s"))
        table.signs.pop()
        self.check(table, [0, 0])
        self.assertIsNone(parted(table, 0, 1))
        table.flats.append(((5,), ()))
        self.check(table, [0, 0, 0])

    def test_a_table_of_two_hundred_flats(self):
        rows = {}
        for number in range(200):
            rows[(number, "s")] = [((), (("call", "a"),) if number == 199 else (), min(number + 1, 199))] * 8
        began = time.process_time()
        self.check(table_of(rows), list(range(200)))
        self.assertEqual(parted(table_of(rows), 0, 1)[1], "s")
        self.assertLess(time.process_time() - began, 30)


class MergedTest(unittest.TestCase):
    def test_each_field(self):
        marks = (("out", 1), ("way", 5), ("in", 2))
        rows = {
            (0, "s"): [((ASK,), marks, 2), ((), (("call", "a"),) + marks, 1)],
            (0, "t"): [],
            (1, "s"): [((ASK,), (), 2), ((), (("call", "a"),), 0)],
            (1, "t"): [],
            (2, "s"): [((), (), 3)],
            (2, "t"): [((), marks + (("say", "w", (0, 1)),), 1)],
            (3, "s"): [((), marks, 2)],
            (3, "t"): [((), (("say", "w", (0, 1)),), 0)],
        }
        flats = [((0,), (-1,)), ((1,), (3,)), ((0, 2), (4,)), ((5,), (-1,))]
        begin = (("in", 0), ("put", 0, (0, 1)), ("in", 1), ("call", "b"))
        table = Table([("x", 7), ("y", -1)], ["s", "t"], begin, flats, rows)
        before = spelled_table(table)
        least = merged(table)
        self.assertIs(type(least), Table)
        fitting = Table([("x", 7), ("y", -1)], ["s", "t"], (("put", 0, (0, 1)), ("call", "b")), [flats[0], flats[2]], {
            (0, "s"): [((ASK,), (), 1), ((), (("call", "a"),), 0)],
            (0, "t"): [],
            (1, "s"): [((), (), 1)],
            (1, "t"): [((), (("say", "w", (0, 1)),), 0)],
        })
        self.assertEqual(spelled_table(least), spelled_table(fitting))
        least.boxes.clear()
        least.signs.clear()
        least.flats.clear()
        least.rows[(0, "s")].clear()
        self.assertEqual(spelled_table(table), before)
        self.assertEqual(spelled_table(merged(table)), spelled_table(fitting))

    def test_flats_that_nothing_leads_to_stay(self):
        rows = {(0, "s"): [((), (), 0)], (1, "s"): [((), (("call", "a"),), 0)]}
        self.assertEqual(merged(table_of(rows)).flats, [((0,), ()), ((1,), ())])

    def test_the_least_table_of_many_tables(self):
        smaller = 0
        for seed, table in enumerate(tables()):
            before = spelled_table(table)
            found = classes(table)
            least = merged(table)
            self.assertEqual(spelled_table(table), before)
            self.assertEqual(len(least.flats), max(found) + 1)
            self.assertEqual(spelled_table(merged(least)), spelled_table(least))
            self.assertEqual(classes(least), list(range(len(least.flats))))
            smaller += len(least.flats) < len(table.flats)
            draw = random.Random(f"least feeds {seed}")
            one, other = FlatRun(table), FlatRun(least)
            for _ in range(12):
                self.assertEqual(told(one.story()), other.story())
                self.assertEqual(one.numbers(), other.numbers())
                self.assertEqual(found[one.flat()], other.flat())
                if draw.random() < 0.25 and one.fed():
                    self.assertEqual(told(one.back()), other.back())
                else:
                    name = draw.choice("abcd")
                    self.assertEqual(told(one.feed(name)), other.feed(name))
        self.assertGreater(smaller, 100)

    def test_the_least_table_of_a_chart(self):
        # Two leaves that do the same, of which one is come to by another way.
        table = flattened(read("one m n\n leaf n\n  on s to o\n  on t to p\n leaf o\n  on s to n\n leaf p\n  on s to n"))
        self.assertEqual(classes(table), [0, 0, 0])
        self.assertEqual(merged(table).rows, {(0, "s"): [((), (), 0)], (0, "t"): [((), (), 0)]})


class PartedTest(unittest.TestCase):
    def check(self, table, one, other, apart):
        """`apart` tells how long the path is to be, or None."""
        before = spelled_table(table)
        answer = parted(table, one, other)
        self.assertEqual(spelled_table(table), before)
        if apart is None:
            self.assertIsNone(answer)
            return
        self.assertIs(type(answer), tuple)
        path, name = answer
        self.assertIs(type(path), list)
        self.assertEqual(len(path), apart)
        for step in path:
            self.assertIs(type(step), tuple)
            for sign in table.signs:
                self.assertEqual(look(table, one, sign), look(table, other, sign))
            one = table.rows[(one, step[0])][step[1]][2]
            other = table.rows[(other, step[0])][step[1]][2]
        self.assertIn(name, table.signs)
        self.assertNotEqual(look(table, one, name), look(table, other, name))
        path.append(77)

    def test_alike_ones(self):
        table = table_of({(0, "s"): [((), (), 1)], (1, "s"): [((), (("in", 1),), 0)]})
        for one in (0, 1):
            for other in (0, 1):
                self.check(table, one, other, None)

    def test_told_apart_at_once(self):
        rows = {(0, "s"): [((), (), 0)], (0, "t"): [], (1, "s"): [((), (), 0)], (1, "t"): [((), (), 1)]}
        table = table_of(rows, "st")
        self.assertEqual(parted(table, 0, 1), ([], "t"))
        self.assertEqual(parted(table, 1, 0), ([], "t"))

    def test_by_a_path(self):
        rows = {
            (0, "s"): [((ASK,), (), 0), ((), (), 2)],
            (1, "s"): [((ASK,), (), 1), ((), (), 3)],
            (2, "s"): [((), (), 0)],
            (3, "s"): [((), (("call", "a"),), 0)],
        }
        self.assertEqual(parted(table_of(rows), 0, 1), ([("s", 1)], "s"))
        self.check(table_of(rows), 1, 0, 1)
        self.check(table_of(rows), 2, 3, 0)

    def test_by_a_long_path(self):
        table = chain_table((("call", "other"),))
        for place in range(CHAIN):
            self.check(table, place, CHAIN + place, CHAIN - 1 - place)
        self.check(chain_table((("call", "end"),)), 0, CHAIN, None)

    def test_the_shorter_one_of_two_paths(self):
        rows = {
            (0, "s"): [((), (), 2)], (0, "t"): [((), (), 4)],
            (1, "s"): [((), (), 3)], (1, "t"): [((), (), 5)],
            (2, "s"): [((), (), 4)], (2, "t"): [((), (), 2)],
            (3, "s"): [((), (), 5)], (3, "t"): [((), (), 2)],
            (4, "s"): [((), (), 4)], (4, "t"): [((), (("call", "a"),), 4)],
            (5, "s"): [((), (), 4)], (5, "t"): [((), (), 4)],
        }
        self.assertEqual(parted(table_of(rows, "st"), 0, 1), ([("t", 0)], "t"))

    def test_every_two_flats_of_many_tables(self):
        deepest = 0
        for table in tables():
            apart = distances(table)
            for one in range(len(table.flats)):
                for other in range(len(table.flats)):
                    self.check(table, one, other, apart.get((one, other)))
            deepest = max([deepest] + list(apart.values()))
        self.assertGreater(deepest, 2)

    def test_two_long_rings_that_are_alike(self):
        # Some ten thousand pairs, each behind the one before.
        rows = {}
        for first, many in ((0, 99), (99, 101)):
            for place in range(many):
                rows[(first + place, "s")] = [((), (), first + (place + 1) % many)]
        began = time.process_time()
        self.assertIsNone(parted(table_of(rows), 0, 99))
        self.assertLess(time.process_time() - began, 20)


if __name__ == "__main__":
    unittest.main()
