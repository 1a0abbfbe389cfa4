"""Houses: each has a shelf of files, changes it by acts, and takes what others tell."""

from twinshelves.errors import NoFile, NoName, NoWords
from twinshelves.files import greater_counts, has_heard, is_gone, name_of, put_together, quarrels_of
from twinshelves.things import is_name, is_text


def refuse_no_name(thing):
    if not is_name(thing):
        raise NoName("a name is a text of 1 to 6 letters a to z")


def refuse_no_text(thing):
    if not is_text(thing):
        raise NoWords("a text is one of 0 to 60 signs")


def lacks(heard_by_id, file):
    known = heard_by_id.get(file[0])
    return known is None or not has_heard(known, file[2])


def name_shown(name, place):
    # No name holds a '~', so what is shown is unlike.
    return name if place == 1 else f"{name}~{place}"


class House:
    def __init__(self, number):
        self.own_number = number
        self.acts = 0
        self.files = {}
        self.told = {}

    def number(self):
        return self.own_number

    def count(self):
        return self.acts

    def go_on_from(self, acts):
        self.acts = acts

    def next_mark(self):
        self.acts += 1
        return (self.own_number, self.acts)

    def make(self, name, text):
        refuse_no_name(name)
        refuse_no_text(text)
        mark = self.next_mark()
        self.files[mark] = (mark, name, (mark,), (), ((mark, text),))
        return mark

    def write(self, which, text):
        file = self.file_on_shelf(which)
        refuse_no_text(text)
        mark = self.next_mark()
        self.change(file, mark, file[3], ((mark, text),))

    def rename(self, which, name):
        file = self.file_on_shelf(which)
        refuse_no_name(name)
        mark = self.next_mark()
        self.change(file, mark, ((mark, name),), file[4])

    def drop(self, which):
        file = self.file_on_shelf(which)
        self.change(file, self.next_mark(), (), ())

    def change(self, file, mark, names, texts):
        self.files[file[0]] = (file[0], file[1], greater_counts(file[2], (mark,)), names, texts)

    def file(self, which):
        if which not in self.files:
            raise NoFile("the house has no file with this id")
        return self.files[which]

    def file_on_shelf(self, which):
        file = self.file(which)
        if is_gone(file):
            raise NoFile("the file with this id is gone")
        return file

    def all_files(self):
        return [self.files[which] for which in sorted(self.files)]

    def files_on_shelf(self):
        return [file for file in self.all_files() if not is_gone(file)]

    def ids(self):
        return tuple([file[0] for file in self.files_on_shelf()])

    def gone(self):
        return tuple([file[0] for file in self.all_files() if is_gone(file)])

    def text_of(self, which):
        # The pairs rise by their marks.
        return self.file_on_shelf(which)[4][-1][1]

    def quarrels(self):
        pairs = [(file[0], quarrels_of(file)) for file in self.all_files()]
        return tuple([pair for pair in pairs if pair[1] != ()])

    def shown(self):
        pairs = []
        places = {}
        for file in self.files_on_shelf():
            name = name_of(file)
            places[name] = places.get(name, 0) + 1
            pairs.append((name_shown(name, places[name]), file[0]))
        return tuple(sorted(pairs))

    def take(self, file):
        own = self.files.get(file[0])
        together = file if own is None else put_together(own, file)
        self.files[file[0]] = together
        return together != own

    def lead_on(self, file):
        # A gone file that the house has not may be one that it forgot.
        if is_gone(file) and file[0] not in self.files:
            return False
        return self.take(file)

    def heard(self):
        return tuple([(file[0], file[2]) for file in self.all_files()])

    def news_for(self, heard):
        heard_by_id = dict(heard)
        return tuple([file for file in self.all_files() if lacks(heard_by_id, file)])

    def told_by(self, number, heard):
        self.told[number] = dict(heard)

    def has_told(self, number, which, known):
        return self.told.get(number, {}).get(which) == known

    def all_told(self, numbers, which):
        known = self.files[which][2]
        return all([self.has_told(number, which, known) for number in numbers])

    def can_forget(self, numbers):
        return tuple([which for which in self.gone() if self.all_told(numbers, which)])

    def forget(self, numbers):
        going = self.can_forget(numbers)
        for which in going:
            self.files.pop(which)
        return len(going)
