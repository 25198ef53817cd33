"""How the table of a chart grows, flat by flat."""

from moodtree.asking import branches
from moodtree.chart import signs
from moodtree.choosing import kept
from moodtree.errors import TooWide
from moodtree.moving import begun, moved

ROWS_FOR_A_FLAT = 8


class Growth:
    def __init__(self, chart, most):
        self.chart = chart
        self.most = most
        self.flats = []
        self.places = {}
        self.rows = {}
        self.spare_rows = ROWS_FOR_A_FLAT * most

    def number_of(self, opens, memory):
        flat = (tuple(opens), tuple(memory))
        if flat not in self.places:
            if len(self.flats) == self.most:
                raise TooWide()
            self.places[flat] = len(self.flats)
            self.flats.append(flat)
        return self.places[flat]

    def grow(self, number, sign):
        opens = list(self.flats[number][0])
        memory = list(self.flats[number][1])
        rows = []
        for asks, picked in branches(self.chart, opens, sign, self.spare_rows):
            move = moved(self.chart, opens, memory, kept(self.chart, list(picked)))
            rows.append((asks, tuple(move[0]), self.number_of(move[1], move[2])))
        self.spare_rows -= len(rows)
        self.rows[(number, sign)] = rows


def grown(chart, most):
    start = begun(chart)
    names = signs(chart)
    growth = Growth(chart, most)
    growth.number_of(start[1], start[2])
    number = 0
    while number < len(growth.flats):
        for sign in names:
            growth.grow(number, sign)
        number += 1
    return (names, tuple(start[0]), growth.flats, growth.rows)
