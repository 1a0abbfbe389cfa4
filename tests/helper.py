"""What several tests need: things of every kind, and files made by a seeded source of chance."""

from random import Random


def nested(thing, depth, wrap):
    for _ in range(depth):
        thing = wrap(thing)
    return thing


def in_list(thing):
    return [thing]


def in_tuple(thing):
    return (thing,)


def in_pair(thing):
    return (thing, thing)


# Things of other kinds, of which none is a name, a text, a mark or a file.
STRANGE_THINGS = (
    None, True, False, 0, 1, -1, 7, 10 ** 999,
    [], (), [[]], ((),), ["a"], ("a",), ["a", "b"], ("a", "b"), [None], (None,), [1, True], (0,), (1, True),
    nested("a", 30, in_list), nested("a", 30, in_tuple), nested((), 33, in_list), nested([], 33, in_tuple),
    nested(1, 15, lambda thing: [(thing, None), "a"]),
)

NAMES = ("a", "b", "ab", "zz", "abcdef", "q")
TEXTS = ("", "hi", "a=b;c", " ", "~" * 60, "text")


def file_of_chance(chance, words_of, first="file", houses=6, most=4):
    """A whole file of id (0, 1): each of its pairs has the words that words_of tells of its mark."""
    others = sorted(chance.sample(range(1, houses), chance.randint(0, houses - 1)))
    known = [(house, chance.randint(1, most)) for house in [0] + others]
    marks = [(house, count) for house, last in known for count in range(1, last + 1)]
    share = chance.choice((0, 0.2, 0.5, 1))
    names = tuple((mark, words_of(mark)[0]) for mark in marks if chance.random() < share)
    texts = tuple((mark, words_of(mark)[1]) for mark in marks if chance.random() < share)
    return ((0, 1), first, tuple(known), names, texts)


def same_words(mark):
    """As acts leave them: under one mark stand the same words in all houses."""
    number = mark[0] * 7 + mark[1] * 3
    return (NAMES[number % len(NAMES)], TEXTS[number % len(TEXTS)])


def files_of_chance(seed, many, houses=6, most=4):
    chance = Random(seed)
    return [file_of_chance(chance, same_words, houses=houses, most=most) for _ in range(many)]
