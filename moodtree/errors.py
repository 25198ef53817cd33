"""The refusals. Each stands straight under MoodError, so that taking one never takes another."""


class MoodError(ValueError):
    pass


class BadTree(MoodError):
    pass


class BadName(MoodError):
    pass


class BadBox(MoodError):
    pass


class BadDeed(MoodError):
    pass


class BadWay(MoodError):
    pass


class TooWide(MoodError):
    pass


class NoStep(MoodError):
    pass


class BadRow(MoodError):
    def __init__(self, row):
        self.row = row


class NoName(MoodError):
    def __init__(self, row):
        self.row = row
