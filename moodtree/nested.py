"""The run of a chart as it stands."""

from moodtree.chart import firsts
from moodtree.choosing import kept, picks
from moodtree.moving import begun, moved
from moodtree.runner import Runner


class NestRun(Runner):
    # Its place is a pair of the open moods and the memory.
    def __init__(self, chart):
        self.chart = chart
        start = begun(chart)
        Runner.__init__(self, firsts(chart), (start[1], start[2]), start[0])

    def step_at(self, sign):
        opens = self.place[0]
        ways = kept(self.chart, picks(self.chart, opens, self.boxes, sign))
        move = moved(self.chart, opens, self.place[1], ways)
        return (move[0], (move[1], move[2]))

    def moods(self):
        return list(self.place[0])

    def state(self):
        return (list(self.place[0]), list(self.place[1]), list(self.boxes))
