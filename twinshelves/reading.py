"""The way back from a text to the file of which it is the writing."""

from twinshelves.errors import NoWriting
from twinshelves.files import is_file
from twinshelves.things import has_signs_between


def number_in(figures):
    # int alone would take signs, blanks and underlines, too.
    if not has_signs_between(figures, "0", "9"):
        raise NoWriting("a number has a sign that is no figure")
    try:
        number = int(figures)
    except ValueError:
        raise NoWriting("a number has no figure, or far too many") from None
    if str(number) != figures:
        raise NoWriting("a number has a nought ahead")
    return number


def mark_in(part):
    cut = part.partition(".")
    return (number_in(cut[0]), number_in(cut[2]))


def pieces_in(part):
    # An empty part has no piece; split would tell of one empty piece.
    return [] if part == "" else part.split(",")


def known_in(part):
    return tuple([mark_in(piece) for piece in pieces_in(part)])


def name_in(piece):
    cut = piece.partition("=")
    return (mark_in(cut[0]), cut[2])


def names_in(part):
    return tuple([name_in(piece) for piece in pieces_in(part)])


def texts_in(rest):
    texts = []
    # Where a text is too short for its number, nothing is left, and no mark is found in that.
    while rest != ";":
        behind_mark = rest.partition("=")
        behind_number = behind_mark[2].partition(":")
        many = number_in(behind_number[0])
        texts.append((mark_in(behind_mark[0]), behind_number[2][:many]))
        rest = behind_number[2][many:]
    return tuple(texts)


def read(text):
    # Texts alone may hold a ';', and they stand in the last part.
    parts = text.split(";", 4)
    if len(parts) < 5:
        raise NoWriting("a part is lacking")
    file = (mark_in(parts[0]), parts[1], known_in(parts[2]), names_in(parts[3]), texts_in(parts[4]))
    if not is_file(file):
        raise NoWriting("the parts make up no file")
    return file
