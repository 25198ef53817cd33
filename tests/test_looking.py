"""Which charts are let and which refusal comes first: points [19] and [20], with [5]."""

import itertools
import unittest

from helper import ALL, LEAF, ONE, chain, chart_of, spelled, trees, wide
from moodtree.chart import Chart
from moodtree.errors import BadBox, BadDeed, BadName, BadTree, BadWay
from moodtree.looking import looked
from moodtree.tree import Tree

BOUND = 10 ** 30
ORDER = (BadTree, BadName, BadBox, BadDeed, BadWay)
PLACES = (0, 4, 8)  # the first, a middle and the last one of the nine moods below

DEEDS = (("put", 0, (-1, 1)), ("call", "go"), ("say", "word", (2, BOUND - 1)))
ASKS = (("<", (0, 0), (-1, 1 - BOUND)), ("open", 8), ("!=", (-1, 5), (2, 1)), ("shut", 0))


def parts():
    """The parts of a chart that is let, as lists to be spoilt."""
    return {
        "kinds": [ONE, ONE, LEAF, LEAF, ALL, LEAF, ONE, LEAF, LEAF],
        "elders": [-1, 0, 1, 1, 0, 4, 4, 6, 0],
        "starts": [1, 2, -1, -1, -1, -1, 7, -1, -1],
        "names": ["a", "b", "c", "d", "e", "f", "g", "h", "i"],
        "boxes": [("x", 0), ("y", 1 - BOUND), ("z", BOUND - 1)],
        "ins": [DEEDS if mood in PLACES else () for mood in range(9)],
        "outs": [DEEDS if mood in PLACES else () for mood in range(9)],
        "ways": [
            (0, "go", ASKS, DEEDS, 8, "new"),
            (4, "stay", (), (), -1, "new"),
            (4, "go", ASKS, DEEDS, 4, "near"),
            (8, "go", ASKS, DEEDS, 0, "far"),
        ],
    }


def made(given):
    tree = Tree(given["kinds"], given["elders"], given["starts"])
    return Chart(given["boxes"], given["names"], tree, given["ins"], given["outs"], given["ways"])


def setting(part, place, thing):
    def spoil(given):
        given[part][place] = thing
    return spoil


def cutting(part):
    def spoil(given):
        given[part].pop()
    return spoil


def adding(part, thing):
    def spoil(given):
        given[part].append(thing)
    return spoil


def way_with(place, field, thing):
    def spoil(given):
        way = list(given["ways"][place])
        way[field] = thing
        given["ways"][place] = tuple(way)
    return spoil


def replaced(row, place, thing):
    return row[:place] + (thing,) + row[place + 1:]


def emptying(given):
    for part in ("kinds", "elders", "starts", "names", "ins", "outs"):
        given[part].clear()


def deepening(given):
    """A chain of ones of which the last mood is thirteen deep, behind the chart's last mood."""
    first = len(given["kinds"])
    for mood in range(first, first + 13):
        given["kinds"].append(ONE if mood < first + 12 else LEAF)
        given["elders"].append(0 if mood == first else mood - 1)
        given["starts"].append(mood + 1 if mood < first + 12 else -1)
        given["names"].append(f"deep{mood}")
        given["ins"].append(())
        given["outs"].append(())


WRONG_NAMES = ("", "in", "to", "A", "9", "9a", "a b", "a ", "a\n", "a_b", "abcdefghijklm")
WRONG_TERMS = ((3, 0), (-2, 0), (99, 0), (0, BOUND), (0, -BOUND), (-1, BOUND), (-1, -BOUND), (2, 10 * BOUND))
WRONG_DEEDS = (
    [("put", box, (-1, 0)) for box in (-1, -2, 3, 99)]
    + [("put", 0, term) for term in WRONG_TERMS]
    + [("say", "word", term) for term in WRONG_TERMS]
    + [("say", name, (-1, 0)) for name in WRONG_NAMES]
    + [("call", name) for name in WRONG_NAMES]
    + [("in", 0), ("out", 0), ("way", 0), ("keep", 0, 1, 1), ("Put", 0, (-1, 0)), ("", "go"), ("sign", "go")]
)
WRONG_ASKS = (
    [("<", term, (0, 0)) for term in WRONG_TERMS]
    + [("!=", (0, 0), term) for term in WRONG_TERMS]
    + [(word, mood) for word in ("open", "shut") for mood in (-1, -2, 9, 99)]
    + [(mark, (0, 0), (0, 0)) for mark in (">", ">=", "==", "", "< ", "is")]
    + [("Open", 0), ("opened", 0)]
)


def tree_faults():
    yield "no mood", emptying
    for part in ("elders", "starts", "names"):
        yield f"too few {part}", cutting(part)
        yield f"too many {part}", adding(part, "j" if part == "names" else -1)
    yield "too few kinds", cutting("kinds")
    yield "too many kinds", adding("kinds", LEAF)
    for elder in (0, 1, 8, -2):
        yield f"the root's elder {elder}", setting("elders", 0, elder)
    for mood, elder in ((1, -1), (1, 1), (1, 2), (4, 2), (4, 4), (4, 5), (4, -1), (4, -2), (5, 1), (5, 3), (8, 5),
                        (8, 8), (8, 9), (8, -1), (8, 1), (7, 5)):
        yield f"elder {elder} of {mood}", setting("elders", mood, elder)
    yield "too deep", deepening
    for place in PLACES:
        for kind in ("", "none", "Leaf", "ones"):
            yield f"kind {kind} at {place}", setting("kinds", place, kind)
    for place in (0, 1, 4, 6):
        yield f"a leaf with an inner mood at {place}", setting("kinds", place, LEAF)
    for place in (2, 5, 8):
        yield f"an empty all at {place}", setting("kinds", place, ALL)
        yield f"an empty one at {place}", setting("kinds", place, ONE)
    for place, starts in ((0, (-1, -2, 0, 2, 5, 9, 99)), (1, (-1, 1, 4, 8, 0, 9)), (6, (-1, -2, 5, 8, 6, 0, 9))):
        for start in starts:
            yield f"start {start} of {place}", setting("starts", place, start)
    for place in (2, 4, 5, 8):
        for start in (0, 5, -2, place):
            yield f"start {start} of {place}", setting("starts", place, start)
    yield "an all with the start of a one", setting("kinds", 0, ALL)
    yield "a one with the start of an all", setting("kinds", 4, ONE)


def name_faults():
    for place in PLACES:
        for name in WRONG_NAMES:
            yield f"name {name!r} at {place}", setting("names", place, name)
    for one, other in ((0, 1), (0, 8), (4, 0), (4, 5), (8, 7), (8, 0)):
        yield f"the name of {other} at {one}", setting("names", one, "abcdefghi"[other])


def box_faults():
    for place in range(3):
        for name in WRONG_NAMES:
            yield f"box {name!r} at {place}", setting("boxes", place, (name, 0))
        for number in (BOUND, -BOUND, BOUND + 1, -10 * BOUND):
            yield f"first number {number} at {place}", setting("boxes", place, (f"w{place}", number))
    for one, other in ((0, 1), (0, 2), (1, 0), (1, 2), (2, 0), (2, 1)):
        yield f"the box of {other} at {one}", setting("boxes", one, ("xyz"[other], 0))


def deed_faults():
    for part in ("ins", "outs"):
        yield f"too few {part}", cutting(part)
        yield f"too many {part}", adding(part, ())
        for mood in PLACES:
            for place in range(3):
                for deed in WRONG_DEEDS:
                    yield f"{deed} of {part} at {mood}", setting(part, mood, replaced(DEEDS, place, deed))
    for way in (0, 2, 3):
        for place in range(3):
            for deed in WRONG_DEEDS:
                yield f"{deed} on way {way}", way_with(way, 3, replaced(DEEDS, place, deed))


def way_faults():
    for way in (0, 2, 3):
        for target in (-2, 9, 99):
            yield f"target {target} of way {way}", way_with(way, 4, target)
        for source in (-1, -2, 9, 99):
            yield f"source {source} of way {way}", way_with(way, 0, source)
        for name in WRONG_NAMES:
            yield f"sign {name!r} of way {way}", way_with(way, 1, name)
        for mode in ("", "New", "old", "nearer"):
            yield f"mode {mode} of way {way}", way_with(way, 5, mode)
        for place in range(len(ASKS)):
            for ask in WRONG_ASKS:
                yield f"{ask} of way {way}", way_with(way, 2, replaced(ASKS, place, ask))
    for place, source in ((0, 5), (1, 5), (2, 3), (3, 3)):
        yield f"source {source} of way {place}", way_with(place, 0, source)
    for mode in ("near", "far"):
        yield f"a way that stays {mode}", way_with(1, 5, mode)
    for way in (2, 3):
        yield f"a way without target in a mode at {way}", way_with(way, 4, -1)


FAULTS = (
    (BadTree, list(tree_faults())),
    (BadName, list(name_faults())),
    (BadBox, list(box_faults())),
    (BadDeed, list(deed_faults())),
    (BadWay, list(way_faults())),
)


class LookingTest(unittest.TestCase):
    def check(self, refusal, spoils, words):
        given = parts()
        for spoil in spoils:
            spoil(given)
        chart = made(given)
        before = spelled(chart)
        try:
            looked(chart)
        except ORDER as e:
            self.assertIs(type(e), refusal, words)
        else:
            self.fail(f"let: {words}")
        self.assertEqual(spelled(chart), before, words)

    def test_a_chart_that_is_let_asked_twice(self):
        chart = made(parts())
        before = spelled(chart)
        self.assertIsNone(looked(chart))
        self.assertIsNone(looked(chart))
        self.assertEqual(spelled(chart), before)

    def test_bare_charts_are_let(self):
        for tree in trees() + [chain(1), wide(300)]:
            self.assertIsNone(looked(chart_of(tree)))

    def test_each_single_fault(self):
        for refusal, faults in FAULTS:
            for words, spoil in faults:
                self.check(refusal, [spoil], words)

    def test_two_faults_of_different_kinds(self):
        for one, other in itertools.permutations(FAULTS, 2):
            first = min(one[0], other[0], key=ORDER.index)
            for words, spoil in one[1][::7] + one[1][-3:]:
                for more, also in other[1][::29] + other[1][-1:]:
                    # The tree's faults may take away what the others spoil: those come first.
                    both = sorted([(one[0], spoil), (other[0], also)], key=lambda pair: -ORDER.index(pair[0]))
                    self.check(first, [pair[1] for pair in both], f"{words}, {more}")

    def test_three_to_five_faults(self):
        for many in (3, 4, 5):
            for chosen in itertools.combinations(FAULTS, many):
                for turn in range(40):
                    spoils = [faults[turn * (place + 3) % len(faults)] for place, (_, faults) in enumerate(chosen)]
                    # From the last kind to the first one, as above.
                    self.check(chosen[0][0], [spoil for _, spoil in reversed(spoils)], [words for words, _ in spoils])

    def test_the_bounds_of_numbers(self):
        for number, fits in ((BOUND - 1, True), (1 - BOUND, True), (BOUND, False), (-BOUND, False), (0, True)):
            for refusal, spoil in (
                (BadBox, setting("boxes", 1, ("y", number))),
                (BadDeed, setting("ins", 4, (("put", 1, (1, number)),))),
                (BadDeed, setting("outs", 4, (("say", "w", (-1, number)),))),
                (BadWay, way_with(2, 2, (("=", (-1, number), (1, 0)),))),
                (BadWay, way_with(2, 2, (("<=", (-1, 0), (1, number)),))),
            ):
                if fits:
                    given = parts()
                    spoil(given)
                    self.assertIsNone(looked(made(given)))
                else:
                    self.check(refusal, [spoil], number)

    def test_depth_twelve_is_let_and_thirteen_is_not(self):
        self.assertIsNone(looked(chart_of(chain(13))))
        for many in (14, 15, 40, 3000):
            with self.assertRaises(BadTree):
                looked(chart_of(chain(many)))

    def test_names_of_boxes_moods_signs_and_words_are_free_of_one_another(self):
        given = parts()
        given["boxes"] = [("a", 0), ("go", 0), ("word", 0)]
        given["names"][0] = "go"
        given["names"][1] = "word"
        self.assertIsNone(looked(made(given)))

    def test_no_boxes_and_no_ways(self):
        self.assertIsNone(looked(chart_of(chain(2))))
        for deed in (("put", 0, (-1, 0)), ("put", -1, (-1, 0)), ("say", "w", (0, 0))):
            with self.assertRaises(BadDeed):
                looked(chart_of(chain(2), ins={1: [deed]}))

    def test_sources_may_be_the_same_and_rise(self):
        for sources, fits in (((0, 0, 0), True), ((0, 1, 1), True), ((2, 2, 1), False), ((1, 0, 2), False)):
            chart = chart_of(wide(3), ways=[(source, "go", (), (), -1, "new") for source in sources])
            if fits:
                self.assertIsNone(looked(chart))
            else:
                with self.assertRaises(BadWay):
                    looked(chart)

    def test_rows_of_deeds_and_asks_of_a_way_may_be_empty(self):
        chart = chart_of(chain(2), ways=[(0, "go", (), (), mood, mode) for mood in (0, 1) for mode in ("new", "far")])
        self.assertIsNone(looked(chart))


if __name__ == "__main__":
    unittest.main()
