"""What every run does, whether of a chart or of a table."""

from moodtree.errors import NoStep
from moodtree.journal import performed

MOST_SIGNS = 8


class Runner:
    # A run's place is what its kind goes by besides the boxes. Boxes, places and rows that are kept are never
    # changed, only replaced: so a step back takes them up again as they stood.
    def __init__(self, boxes, place, script):
        self.place = place
        self.past = []
        step = performed(script, boxes)
        self.boxes = step[0]
        self.first_rows = step[1] + self.dealt(step[2])

    def step_at(self, sign):
        # The script of a sign and the place behind it. Each kind of run tells its own; here no way goes.
        return ([], self.place)

    def dealt(self, called):
        waiting = list(called)
        rows = []
        many = 0
        while waiting and many < MOST_SIGNS:
            many += 1
            sign = waiting.pop(0)
            going = self.step_at(sign)
            step = performed(going[0], self.boxes)
            self.place = going[1]
            self.boxes = step[0]
            rows.append(("sign", sign))
            rows.extend(step[1])
            waiting.extend(step[2])
        if waiting:
            rows.append(("rest", len(waiting)))
        return rows

    def feed(self, sign):
        place = self.place
        boxes = self.boxes
        rows = self.dealt([sign])
        self.past.append((place, boxes, rows))
        return list(rows)

    def back(self):
        if len(self.past) == 0:
            raise NoStep()
        last = self.past.pop()
        self.place = last[0]
        self.boxes = last[1]
        return last[2]

    def fed(self):
        return len(self.past)

    def story(self):
        rows = list(self.first_rows)
        for step in self.past:
            rows.extend(step[2])
        return rows

    def numbers(self):
        return list(self.boxes)
