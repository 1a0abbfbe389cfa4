"""What several tests need: things of every kind, drawn files, drawn stories of houses, and what these must tell."""

import unittest
from random import Random

from twinshelves.files import name_of, quarrels_of


def nested(thing, depth, wrap):
    for _ in range(depth):
        thing = wrap(thing)
    return thing


def in_list(thing):
    return [thing]


def in_tuple(thing):
    return (thing,)


def in_pair(thing):
    return (thing, thing)


# Things of other kinds, of which none is a name, a text, a mark or a file.
STRANGE_THINGS = (
    None, True, False, 0, 1, -1, 7, 10 ** 999,
    [], (), [[]], ((),), ["a"], ("a",), ["a", "b"], ("a", "b"), [None], (None,), [1, True], (0,), (1, True),
    nested("a", 30, in_list), nested("a", 30, in_tuple), nested((), 33, in_list), nested([], 33, in_tuple),
    nested(1, 15, lambda thing: [(thing, None), "a"]),
)

SIGNS = "".join(chr(code) for code in range(32, 127))
NAMES = ("a", "b", "ab", "zz", "abcdef", "q")
TEXTS = ("", "hi", "a=b;c", " ", "~" * 60, "text")


def file_of_chance(chance, words_of, first="file", houses=6, most=4):
    """A whole file of id (0, 1): each of its pairs has the words that words_of tells of its mark."""
    others = sorted(chance.sample(range(1, houses), chance.randint(0, houses - 1)))
    known = [(house, chance.randint(1, most)) for house in [0] + others]
    marks = [(house, count) for house, last in known for count in range(1, last + 1)]
    share = chance.choice((0, 0.2, 0.5, 1))
    names = tuple((mark, words_of(mark)[0]) for mark in marks if chance.random() < share)
    texts = tuple((mark, words_of(mark)[1]) for mark in marks if chance.random() < share)
    return ((0, 1), first, tuple(known), names, texts)


def same_words(mark):
    """As acts leave them: under one mark stand the same words in all houses."""
    number = mark[0] * 7 + mark[1] * 3
    return (NAMES[number % len(NAMES)], TEXTS[number % len(TEXTS)])


def files_of_chance(seed, many, houses=6, most=4):
    chance = Random(seed)
    return [file_of_chance(chance, same_words, houses=houses, most=most) for _ in range(many)]


def odd_files(seed, many):
    """Files with counts of one to thirty figures, and with texts of the signs that stand between parts."""
    chance = Random(seed)
    files = []
    for _ in range(many):
        counts = [chance.randint(1, 10 ** chance.randint(1, 30)) for _ in range(6)]
        known = tuple(enumerate(counts))[chance.randint(0, 3):chance.randint(4, 6)]
        marks = sorted({(house, chance.randint(1, last)) for house, last in known for _ in range(3)})
        names = tuple((mark, chance.choice(NAMES)) for mark in marks if chance.random() < 0.4)
        texts = tuple((mark, "".join(chance.choices(";:,=.0123456789 ab", k=chance.randint(0, 60))))
                      for mark in marks if chance.random() < 0.4)
        files.append((chance.choice(known), chance.choice(NAMES), known, names, texts))
    return files


def everything_of(house):
    """All that a house tells when it is asked."""
    return {
        "number": house.number(), "count": house.count(), "ids": house.ids(), "gone": house.gone(),
        "files": tuple(house.file(which) for which in sorted(house.ids() + house.gone())),
        "texts": tuple(house.text_of(which) for which in house.ids()),
        "quarrels": house.quarrels(), "shown": house.shown(), "heard": house.heard(),
        "news": house.news_for(()), "stones": house.can_forget(()),
    }


class Story:
    """Several houses, and beside each one, in sets, the acts that it heard of: what they leave is told from these."""

    def __init__(self, seed, houses, make_house):
        self.chance = Random(seed)
        self.houses = [make_house(number) for number in range(houses)]
        self.acts = {}
        self.heard = [{} for _ in range(houses)]

    def act(self, number):
        """One drawn act of this house; what it had heard of the file by then is put down with it."""
        house, heard = self.houses[number], self.heard[number]
        mark = (number, house.count() + 1)
        living = house.ids()
        # Few files, so that several houses often change the same one.
        kinds = ("write",) * 4 + ("rename",) * 4 + (("make",) if len(living) < 4 else ("drop",))
        kind = self.chance.choice(kinds + ("drop",)) if living else "make"
        which = mark if kind == "make" else self.chance.choice(living)
        name, text = self.chance.choice(NAMES[:3]), self.chance.choice(TEXTS)
        things = {"make": (name, text), "write": (which, text), "rename": (which, name), "drop": (which,)}[kind]
        told = {"make": house.make, "write": house.write, "rename": house.rename, "drop": house.drop}[kind](*things)
        self.acts[mark] = (which, kind, name, text, frozenset(heard.get(which, ())))
        heard[which] = heard.get(which, frozenset()) | {mark}
        return (told, mark if kind == "make" else None)

    def hear(self, number, which, marks):
        """It is put down that the house heard of these acts on a file; told is whether one of them is new to it."""
        before = self.heard[number].get(which, frozenset())
        self.heard[number][which] = before | marks
        return not marks <= before

    def take(self, number, brought):
        """The house takes a file; told are its truth, and whether there was an act that is new to the house."""
        file, marks = brought
        return (self.houses[number].take(file), self.hear(number, file[0], marks))

    def files_of(self, number):
        """Each file that the house has now, with the acts that were heard of."""
        return [(self.houses[number].file(which), marks) for which, marks in self.heard[number].items()]

    def left(self, marks, ones, takers):
        """The marks of acts of these kinds which no act that had them, and is of the takers' kinds, took away."""
        taken = {mark for act in marks if self.acts[act][1] in takers for mark in self.acts[act][4]}
        return sorted(mark for mark in marks if self.acts[mark][1] in ones and mark not in taken)

    def expected(self, number, which):
        marks = self.heard[number][which]
        known = {house: max(count for there, count in marks if there == house) for house, _ in marks}
        names = self.left(marks, ("rename",), ("rename", "drop"))
        texts = self.left(marks, ("make", "write"), ("write", "drop"))
        return (which, self.acts[which][2], tuple(sorted(known.items())),
                tuple((mark, self.acts[mark][2]) for mark in names),
                tuple((mark, self.acts[mark][3]) for mark in texts))


def drawn_houses(seed, many, make_house, times=60):
    """Houses that acted, and took some of one another's files."""
    story = Story(seed, many, make_house)
    for _ in range(times):
        number = story.chance.randrange(many)
        story.act(number)
        if story.chance.random() < 0.5:
            for brought in story.files_of(story.chance.randrange(many)):
                if story.chance.random() < 0.4:
                    story.take(number, brought)
    return story.houses


def shown_told(files):
    """The words of 2.3, once more: by how many files with the same name have a lesser id."""
    standing = [file for file in files if file[4]]
    told = []
    for file in standing:
        ahead = sum(name_of(other) == name_of(file) and other[0] < file[0] for other in standing)
        told.append((name_of(file) + (f"~{ahead + 1}" if ahead else ""), file[0]))
    return tuple(sorted(told))


class StoryCase(unittest.TestCase):
    def assert_as_the_acts_leave_it(self, story, number):
        house = story.houses[number]
        files = [story.expected(number, which) for which in sorted(story.heard[number])]
        standing = [file for file in files if file[4]]
        self.assertEqual([house.file(file[0]) for file in files], files)
        self.assertEqual(house.ids(), tuple(file[0] for file in standing))
        self.assertEqual(house.gone(), tuple(file[0] for file in files if not file[4]))
        self.assertEqual(house.heard(), tuple((file[0], file[2]) for file in files))
        self.assertEqual([house.text_of(file[0]) for file in standing], [max(file[4])[1] for file in standing])
        self.assertEqual(house.quarrels(), tuple((file[0], quarrels_of(file)) for file in files if quarrels_of(file)))
        self.assertEqual(house.shown(), shown_told(files))
        self.assertEqual(len({name for name, _ in house.shown()}), len(standing))
        self.assertEqual((house.number(), house.count()), (number, sum(mark[0] == number for mark in story.acts)))

    def assert_all_the_same(self, houses):
        told = [everything_of(house) for house in houses]
        for name in ("ids", "gone", "files", "texts", "quarrels", "shown", "heard", "news"):
            self.assertEqual([one[name] for one in told], [told[0][name]] * len(told), name)
