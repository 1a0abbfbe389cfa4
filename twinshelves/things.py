"""The plain things that files are made of: whole numbers, names, texts, marks."""

HOUSES = 6
LONGEST_NAME = 6
LONGEST_TEXT = 60


def is_whole(thing):
    # Python counts truths among its ints; the document does not.
    return isinstance(thing, int) and not isinstance(thing, bool)


def has_signs_between(text, least, greatest):
    return all([least <= sign <= greatest for sign in text])


def is_name(thing):
    # islower and isalpha would let letters beyond a to z through.
    return isinstance(thing, str) and 1 <= len(thing) <= LONGEST_NAME and has_signs_between(thing, "a", "z")


def is_text(thing):
    return isinstance(thing, str) and len(thing) <= LONGEST_TEXT and has_signs_between(thing, " ", "~")


def is_tuple_of_length(thing, length):
    return isinstance(thing, tuple) and len(thing) == length


def is_house(thing):
    return is_whole(thing) and 0 <= thing < HOUSES


def is_mark(thing):
    return is_tuple_of_length(thing, 2) and is_house(thing[0]) and is_whole(thing[1]) and thing[1] >= 1
