import itertools
import unittest
from random import Random

from helper import SIGNS, STRANGE_THINGS
from twinshelves.parcels import best_old, is_parcel, opened, parcel, weight

OLD = "the house has a shelf"
# Each parcel with what it opens to, for one who has OLD, and with its weight; put down by hand.
PARCELS = (
    ((), "", 0),
    ((("new", "x"),), "x", 3),
    ((("new", "new signs"),), "new signs", 11),
    ((("keep", 0, 1),), "t", 2),
    ((("keep", 20, 1),), "f", 2),
    ((("keep", 0, 21),), OLD, 2),
    ((("keep", 4, 5),), "house", 2),
    ((("keep", 4, 5), ("new", "s")), "houses", 5),
    ((("new", "my "), ("keep", 4, 5)), "my house", 7),
    ((("keep", 16, 5), ("new", "-"), ("keep", 4, 5)), "shelf-house", 7),
    ((("keep", 4, 5), ("keep", 4, 5)), "househouse", 4),
    ((("new", "a"), ("new", "b")), "ab", 6),
    ((("keep", 4, 2), ("keep", 6, 3)), "house", 4),
    ((("new", "keep"), ("new", "new")), "keepnew", 11),
)


def least_weight(text, old):
    """By a search of all cuts: for each end all places where the last piece may begin."""
    least = [0]
    for end in range(1, len(text) + 1):
        least.append(min(least[begin] + 2 + (0 if text[begin:end] in old else end - begin) for begin in range(end)))
    return least[-1]


def cuts_of(text):
    """All ways to cut a text into pieces of one sign or more."""
    if text == "":
        yield ()
    for many in range(1, len(text) + 1):
        for behind in cuts_of(text[many:]):
            yield (text[:many],) + behind


def least_of_each_cut(text, old):
    return min(sum(2 if piece in old else 2 + len(piece) for piece in cut) for cut in cuts_of(text))


def texts_over(signs, most):
    return ["".join(text) for length in range(most + 1) for text in itertools.product(signs, repeat=length)]


def drawn_text(chance, signs, most=60):
    return "".join(chance.choices(signs, k=chance.randint(0, most)))


def changed(chance, text, times):
    """The text with pieces of it left out, doubled, moved, and with new signs, but with 60 signs at most."""
    for _ in range(times):
        begin, end = sorted((chance.randint(0, len(text)), chance.randint(0, len(text))))
        piece = text[begin:end]
        place = chance.randint(0, len(text))
        text = chance.choice((
            text[:begin] + text[end:],
            text[:place] + piece + text[place:],
            text[:begin] + chance.choice(SIGNS) + text[begin:],
            text[:begin] + chance.choice(SIGNS) + text[begin + 1:],
            text[end:] + piece + text[:begin],
        ))[:60]
    return text


class OpenedAndWeight(unittest.TestCase):
    def test_opened(self):
        for pieces, text, _ in PARCELS:
            self.assertEqual(opened(pieces, OLD), text)

    def test_weight(self):
        for pieces, _, told in PARCELS:
            self.assertEqual(weight(pieces), told)

    def test_each_piece_of_old(self):
        for begin in range(len(OLD)):
            for many in range(1, len(OLD) - begin + 1):
                pieces = (("keep", begin, many),)
                self.assertEqual(opened(pieces, OLD), "".join(OLD[place] for place in range(begin, begin + many)))
                self.assertEqual(weight(pieces), 2)

    def test_many_pieces(self):
        pieces = (("keep", 0, 1), ("new", "ab")) * 30
        self.assertEqual(opened(pieces, "xyz"), "xab" * 30)
        self.assertEqual(weight(pieces), 180)


class IsParcel(unittest.TestCase):
    def assert_none(self, thing, text, old=OLD):
        self.assertIs(is_parcel(thing, text, old), False, (thing, text, old))

    def test_parcels(self):
        for pieces, text, _ in PARCELS:
            self.assertIs(is_parcel(pieces, text, OLD), True, pieces)

    def test_for_another_text(self):
        for pieces, text, _ in PARCELS:
            for other in (text + "x", text[:-1] if text else " ", text.upper() + "A", "some other text"):
                self.assert_none(pieces, other)

    def test_for_another_old(self):
        self.assert_none((("keep", 4, 5),), "house", "the mouse")
        self.assert_none((("keep", 4, 5),), "house", "the hous")
        self.assert_none((("keep", 4, 5),), "house", "")
        self.assertIs(is_parcel((("keep", 0, 5),), "house", "house"), True)

    def test_things_of_any_kind(self):
        for thing in STRANGE_THINGS + ("", "x", "keep", "new", ("new", "x"), ("keep", 0, 1)):
            for text in ("", "x", "t", "a"):
                if (thing, text) != ((), ""):
                    self.assert_none(thing, text)

    def test_things_of_any_kind_as_a_piece(self):
        for thing in STRANGE_THINGS + ("", "x", "t", "new", "keep", {}, {"new": "x"}):
            for text in ("", "x", "t", "a"):
                self.assert_none((thing,), text)
                self.assert_none((("new", "x"), thing), "x" + text)
                self.assert_none((thing, ("new", "x")), text + "x")

    def test_things_of_any_kind_as_a_part(self):
        for thing in STRANGE_THINGS:
            for text in ("", "x", "t", "h", "th", "he"):
                self.assert_none(((thing, "x"),), text)
                self.assert_none(((thing, 0, 1),), text)
                self.assert_none((("new", thing),), text)
        strange = [thing for thing in STRANGE_THINGS if isinstance(thing, bool) or not isinstance(thing, int)]
        for thing in strange + ["", "0", "1"]:
            for text in ("", "t", "h", "e", "th", "he", "house h"):
                self.assert_none((("keep", thing, 1),), text)
                self.assert_none((("keep", 0, thing),), text)

    def test_a_list_in_the_place_of_a_tuple(self):
        self.assert_none([("new", "x")], "x")
        self.assert_none((["new", "x"],), "x")
        self.assert_none([["new", "x"]], "x")
        self.assert_none((["keep", 0, 1],), "t")
        self.assert_none([("keep", 0, 1)], "t")
        self.assert_none((("new", ["x"]),), "x")
        self.assert_none([], "")
        self.assert_none((("keep", 0, 1), ["new", "x"]), "tx")

    def test_a_truth_in_the_place_of_a_number(self):
        self.assertIs(is_parcel((("keep", 0, 1),), "t", OLD), True)
        self.assertIs(is_parcel((("keep", 1, 1),), "h", OLD), True)
        self.assert_none((("keep", 0, True),), "t")
        self.assert_none((("keep", False, 1),), "t")
        self.assert_none((("keep", True, 1),), "h")
        self.assert_none((("keep", 1, True),), "h")
        self.assert_none((("keep", False, True),), "t")

    def test_many_of_less_than_one(self):
        for many in (0, -1, -2, -20, -10 ** 999):
            for begin in (0, 5, 20, 21):
                for text in ("", OLD[begin:begin + many], OLD[begin:], OLD[many:]):
                    self.assert_none((("keep", begin, many),), text)
            self.assert_none((("new", "x"), ("keep", 0, many)), "x")

    def test_a_place_outside_of_old(self):
        for begin, many in ((20, 2), (21, 1), (22, 1), (0, 22), (10, 12), (-1, 1), (-1, 2), (-21, 21), (-21, 1),
                            (10 ** 999, 1), (0, 10 ** 999), (-10 ** 999, 10 ** 999 + 1)):
            for text in ("", OLD[begin:begin + many], OLD[max(begin, 0):begin + many], "f", OLD):
                self.assert_none((("keep", begin, many),), text)

    def test_an_empty_piece_of_signs(self):
        self.assert_none((("new", ""),), "")
        self.assert_none((("new", "x"), ("new", "")), "x")
        self.assert_none((("new", ""), ("keep", 0, 1)), "t")

    def test_another_word(self):
        for word in ("Keep", "keep ", "kept", "", "new", "k", "old"):
            self.assert_none(((word, 0, 1),), "t")
        for word in ("New", "new ", "news", "", "keep", "n", "old"):
            self.assert_none(((word, "x"),), "x")

    def test_a_part_more_or_less(self):
        for piece in (("keep", 0), ("keep",), ("keep", 0, 1, 1), ("keep", 0, 1, None), ("new",), ("new", "t", "t"),
                      ("new", "t", 1), ("new", 0, 1), ("keep", "t"), (), ("new", "t", ""), (0, 1), ("t",)):
            self.assert_none((piece,), "t")
            self.assert_none((("new", "x"), piece), "xt")

    def test_a_piece_too_many_or_too_few(self):
        for pieces, text, _ in PARCELS:
            for piece in (("new", "x"), ("keep", 0, 1), ("keep", 4, 5)):
                self.assert_none(pieces + (piece,), text)
                self.assert_none((piece,) + pieces, text)
            for place in range(len(pieces)):
                self.assert_none(pieces[:place] + pieces[place + 1:], text)

    def test_one_piece_spoilt(self):
        right = (("keep", 16, 5), ("new", "-"), ("keep", 4, 5))
        self.assertIs(is_parcel(right, "shelf-house", OLD), True)
        for place, piece in ((0, ("keep", 15, 5)), (0, ("keep", 16, 4)), (0, ("keep", 16, 6)), (0, ("keep", 17, 5)),
                             (0, ("keep", -5, 5)), (1, ("new", "+")), (1, ("new", "--")), (1, ("new", "")),
                             (1, ("new", ("-",))), (2, ("keep", 4, 0)), (2, ("keep", 5, 5)), (2, "house"), (1, "-"),
                             (2, ("house",)), (2, ("keep", "4", 5)), (2, ("keep", 4, "5")), (2, ("keep", 4, None)),
                             (2, ("keep", (4,), 5)), (2, None), (1, ("new", 7)), (0, (("keep", 16, 5),))):
            self.assert_none(right[:place] + (piece,) + right[place + 1:], "shelf-house")

    def test_pieces_in_another_order(self):
        right = (("keep", 16, 5), ("new", "-"), ("keep", 4, 5))
        for pieces in itertools.permutations(right):
            self.assertIs(is_parcel(pieces, "shelf-house", OLD), pieces == right)

    def test_a_heavier_one_is_a_parcel_too(self):
        text = OLD[:10] + "new" + OLD[10:]
        self.assertIs(is_parcel(tuple(("new", sign) for sign in text), text, OLD), True)
        self.assertIs(is_parcel((("new", text),), text, OLD), True)
        self.assertIs(is_parcel(tuple(("keep", OLD.index(sign), 1) for sign in OLD), OLD, OLD), True)


class Parcel(unittest.TestCase):
    def assert_lightest(self, text, old, least):
        told = parcel(text, old)
        self.assertIs(is_parcel(told, text, old), True, (told, text, old))
        self.assertEqual(opened(told, old), text)
        self.assertEqual(weight(told), least, (told, text, old))
        self.assertEqual(parcel(text, old), told)

    def test_the_same_text(self):
        for text in ("a", "ab", OLD, "x" * 60, SIGNS[:60]):
            self.assert_lightest(text, text, 2)

    def test_an_empty_text(self):
        for old in ("", "a", OLD, "x" * 60):
            self.assert_lightest("", old, 0)

    def test_an_empty_old(self):
        for length in range(1, 61):
            self.assert_lightest(SIGNS[:length], "", 2 + length)
            self.assert_lightest("a" * length, "", 2 + length)

    def test_nothing_alike(self):
        self.assert_lightest("abc", "xyz", 5)
        self.assert_lightest("a" * 60, "b" * 60, 62)

    def test_by_hand(self):
        for text, old, least in (
            ("houses", "house", 4), ("houser!", "house", 6), ("ab", "xaxbx", 4), ("abab", "ab", 4), ("aaaaaaaa", "aa", 8), ("aaaaa", "aaa", 4),
            # A kept piece between two new ones spares its signs, but weighs 2, and 2 more for the second new one.
            ("xay", "a", 5), ("xaby", "ab", 6), ("xabcy", "abc", 7), ("xabcdy", "abcd", 8), ("xabcdey", "abcde", 8),
            ("a", "a", 2), ("b", "a", 3), ("ba", "ab", 4), ("hello world", "world hello", 6),
            ("abcabc", "cab", 6), ("bcab", "abcab", 2),
        ):
            self.assert_lightest(text, old, least)
            self.assertEqual(least_weight(text, old), least, (text, old))

    def test_all_short_texts_against_each_cut(self):
        for text in texts_over("ab", 6):
            for old in texts_over("ab", 4):
                self.assert_lightest(text, old, least_of_each_cut(text, old))
        for text in texts_over("abc", 5):
            for old in ("", "a", "ab", "abc", "cab", "bb", "acb", "cc"):
                self.assert_lightest(text, old, least_of_each_cut(text, old))

    def test_the_search_of_all_cuts_against_each_cut(self):
        chance = Random(41)
        for _ in range(60):
            text, old = drawn_text(chance, "abc", 11), drawn_text(chance, "abcd", 12)
            self.assertEqual(least_weight(text, old), least_of_each_cut(text, old))
            self.assert_lightest(text, old, least_of_each_cut(text, old))

    def test_drawn_texts_with_little_alike(self):
        chance = Random(42)
        for signs in ("ab", "abc", "abcdefgh", SIGNS):
            for _ in range(60):
                text, old = drawn_text(chance, signs), drawn_text(chance, signs)
                self.assert_lightest(text, old, least_weight(text, old))

    def test_drawn_texts_with_much_alike(self):
        chance = Random(43)
        for _ in range(250):
            old = drawn_text(chance, chance.choice((SIGNS, "abcdef", "ab")))
            text = changed(chance, old, chance.randint(1, 5))
            self.assert_lightest(text, old, least_weight(text, old))

    def test_texts_of_each_length(self):
        chance = Random(44)
        for length in range(61):
            text = "".join(chance.choices("abcd", k=length))
            old = changed(chance, text, 3)
            self.assert_lightest(text, old, least_weight(text, old))
            self.assert_lightest(old, text, least_weight(old, text))

    def test_texts_somewhat_longer(self):
        old = "0123456789" * 10
        text = old[5:45] + "+" + old[:70]
        self.assert_lightest(text, old, 7)

    def test_signs_that_stand_between_pieces(self):
        text = "(('keep', 0, 1), (\"new\", \"\\\"));:,=."
        self.assert_lightest(text, text[::-1], least_weight(text, text[::-1]))
        self.assert_lightest(text, text[3:], 7)


class BestOld(unittest.TestCase):
    def test_one(self):
        for text, old in (("", ""), ("a", ""), ("a", "b"), ("a", "a"), ("", "a")):
            self.assertEqual(best_old(text, (old,)), 0)

    def test_several(self):
        text = "the house and the shelf"
        olds = ("", "x", "the house", "the shelf", "the house and", "the house and the shelves", "house", "and")
        self.assertEqual(best_old(text, olds), 5)
        self.assertEqual(best_old(text, olds[:5]), 4)
        self.assertEqual(best_old(text, olds[:2]), 0)
        self.assertEqual(best_old(text, olds[6:] + olds[4:6]), 3)

    def test_the_first_of_several_that_are_alike(self):
        self.assertEqual(best_old("abc", ("x", "abc", "abc", "abc")), 1)
        self.assertEqual(best_old("abc", ("zabcz", "abc")), 0)
        self.assertEqual(best_old("abc", ("abc", "zabcz")), 0)
        self.assertEqual(best_old("abc", ("x", "y", "z")), 0)
        self.assertEqual(best_old("", ("abc", "")), 0)
        self.assertEqual(best_old("abcde", ("x", "x", "abcd", "bcde", "abcd")), 2)

    def test_the_last(self):
        self.assertEqual(best_old("abc", ("x", "y", "abc")), 2)

    def test_drawn_ones(self):
        chance = Random(45)
        places = set()
        for _ in range(150):
            text = drawn_text(chance, "abcd", 30)
            olds = tuple(chance.choice((changed(chance, text, 4), drawn_text(chance, "abcd", 30)))
                         for _ in range(chance.randint(1, 6)))
            weights = [least_weight(text, old) for old in olds]
            told = best_old(text, olds)
            self.assertEqual(told, min(place for place in range(len(olds)) if weights[place] == min(weights)))
            places.add(told)
        self.assertEqual(places, set(range(6)))


if __name__ == "__main__":
    unittest.main()
