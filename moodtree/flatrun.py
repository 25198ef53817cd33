"""The run of a table."""

from moodtree.runner import Runner
from moodtree.sums import all_hold


class FlatRun(Runner):
    # Its place is the number of its flat.
    def __init__(self, table):
        self.table = table
        Runner.__init__(self, [box[1] for box in table.boxes], 0, table.begin)

    def step_at(self, sign):
        if sign in self.table.signs:
            for row in self.table.rows[(self.place, sign)]:
                if all_hold(row[0], self.boxes):
                    return (row[1], row[2])
        return ((), self.place)

    def moods(self):
        return list(self.table.flats[self.place][0])

    def flat(self):
        return self.place
