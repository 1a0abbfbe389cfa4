"""Meetings: two houses bring one another, file by file, what each one lacks."""

from twinshelves.errors import NoFile


def rows_between(one, other):
    pairs = [(file[0], 0) for file in other.news_for(one.heard())]
    pairs = pairs + [(file[0], 1) for file in one.news_for(other.heard())]
    return tuple([(pair[1], pair[0]) for pair in sorted(pairs)])


def bring(giver, taker, which):
    try:
        file = giver.file(which)
    except NoFile:
        # The giver may have forgotten the file since the meeting began.
        return
    taker.take(file)


def in_step(one, other):
    return one.all_files() == other.all_files()


class Meeting:
    def __init__(self, one, other):
        self.one = one
        self.other = other
        self.agreed = rows_between(one, other)
        self.done = 0

    def rows(self):
        return self.agreed[self.done:]

    def step(self):
        if self.done == len(self.agreed):
            return None
        row = self.agreed[self.done]
        self.done += 1
        if row[0] == 0:
            bring(self.other, self.one, row[1])
        else:
            bring(self.one, self.other, row[1])
        return row

    def rest(self):
        many = 0
        while self.step() is not None:
            many += 1
        return many
