import itertools
import re
import string
import unittest
from random import Random

from helper import SIGNS, files_of_chance, odd_files
from twinshelves.errors import NoWriting
from twinshelves.files import is_file
from twinshelves.reading import read
from twinshelves.writing import written

EXAMPLE = "0.1;ab;0.3,1.2;1.2=b;0.1=2:hi0.3=0:;"
EXAMPLE_FILE = ((0, 1), "ab", ((0, 3), (1, 2)), (((1, 2), "b"),), (((0, 1), "hi"), ((0, 3), "")))
MANY_FIGURES = 10 ** 999 + 7

# Each file with its writing, put down by hand.
WRITINGS = (
    (EXAMPLE_FILE, EXAMPLE),
    (((2, 7), "x", ((2, 7),), (), (((2, 7), ""),)), "2.7;x;2.7;;2.7=0:;"),
    (((2, 7), "x", ((2, 8),), (), ()), "2.7;x;2.8;;;"),
    (((0, 1), "abcdef", ((0, 1), (5, 10)), (((0, 1), "a"), ((5, 9), "a"), ((5, 10), "zz")), ()),
     "0.1;abcdef;0.1,5.10;0.1=a,5.9=a,5.10=zz;;"),
    (((4, 12), "q", ((4, 120),), (((4, 20), "r"),), (((4, 19), "0123456789"), ((4, 100), "1.1=1:1"))),
     "4.12;q;4.120;4.20=r;4.19=10:01234567894.100=7:1.1=1:1;"),
    (((0, 1), "a", ((0, 1),), (), (((0, 1), ";:,=."),)), "0.1;a;0.1;;0.1=5:;:,=.;"),
    (((0, 1), "a", ((0, 1),), (), (((0, 1), ";"),)), "0.1;a;0.1;;0.1=1:;;"),
    (((0, 1), "a", ((0, 1),), (), (((0, 1), EXAMPLE),)), "0.1;a;0.1;;0.1=36:" + EXAMPLE + ";"),
    (((0, 1), "a", ((0, 2),), (), (((0, 1), "~" * 60), ((0, 2), " " * 60))),
     "0.1;a;0.2;;0.1=60:" + "~" * 60 + "0.2=60:" + " " * 60 + ";"),
    (((3, 1), "a", tuple((house, house + 1) for house in range(6)), (), (((5, 6), "x"),)),
     "3.1;a;0.1,1.2,2.3,3.4,4.5,5.6;;5.6=1:x;"),
)


def drawn_files():
    return files_of_chance(11, 150) + odd_files(12, 150)


def file_told(text):
    """The file of which the text is the writing, or None: the words of 5.1, once more, by patterns."""
    number = r"(?:0|[1-9][0-9]*)"
    mark = number + r"\." + number
    head = re.match(rf"({mark});([a-z]*);((?:{mark}(?:,(?!;)|(?=;)))*);((?:{mark}=[a-z]*(?:,(?!;)|(?=;)))*);", text)
    if head is None:
        return None
    place = head.end()
    texts = []
    while not (text[place:] == ";"):
        ahead = re.compile(rf"({mark})=({number}):").match(text, place)
        if ahead is None or ahead.end() + int(ahead[2]) > len(text):
            return None
        place = ahead.end() + int(ahead[2])
        texts.append((mark_told(ahead[1]), text[ahead.end():place]))
    known = tuple(mark_told(piece) for piece in head[3].split(",") if piece)
    names = tuple((mark_told(piece.split("=")[0]), piece.split("=")[1]) for piece in head[4].split(",") if piece)
    file = (mark_told(head[1]), head[2], known, names, tuple(texts))
    return file if is_file(file) else None


def mark_told(piece):
    house, count = piece.split(".")
    return (int(house), int(count))


class Written(unittest.TestCase):
    def test_the_example_of_the_document(self):
        self.assertEqual(written(EXAMPLE_FILE), EXAMPLE)

    def test_files_and_their_writings(self):
        for file, text in WRITINGS:
            self.assertEqual(written(file), text)
            self.assertEqual(written(file), text)

    def test_counts_of_many_figures(self):
        mark = (3, MANY_FIGURES)
        figures = "1" + "0" * 998 + "7"
        text = f"3.{figures};ab;3.{figures};3.{figures}=b;3.{figures}=2:hi;"
        self.assertEqual(written((mark, "ab", (mark,), ((mark, "b"),), ((mark, "hi"),))), text)

    def test_unlike_files_have_unlike_writings(self):
        files = set(drawn_files())
        self.assertEqual(len({written(file) for file in files}), len(files))


class Read(unittest.TestCase):
    def test_the_example_of_the_document(self):
        self.assertEqual(read(EXAMPLE), EXAMPLE_FILE)

    def test_writings_and_their_files(self):
        for file, text in WRITINGS:
            self.assertEqual(read(text), file)
            self.assertEqual(read(text), file)

    def test_the_very_file_comes_back(self):
        for file in drawn_files():
            self.assertEqual(read(written(file)), file)
            self.assertIs(is_file(read(written(file))), True)

    def test_every_sign_in_a_text(self):
        for sign in SIGNS:
            for text in (sign, sign * 2, sign * 60, "a" + sign, sign + "a"):
                file = ((0, 1), "a", ((0, 2),), (), (((0, 1), text), ((0, 2), text)))
                self.assertEqual(read(written(file)), file)

    def test_texts_of_every_length(self):
        for length in range(61):
            file = ((0, 1), "a", ((0, 2),), (), (((0, 1), "9" * length), ((0, 2), ";" * length)))
            self.assertEqual(read(written(file)), file)

    def test_counts_of_many_figures(self):
        for count in (9, 10, 99, 100, 10 ** 20, 10 ** 20 - 1, MANY_FIGURES):
            mark = (5, count)
            file = (mark, "ab", (mark,), ((mark, "b"),), ((mark, "hi"),))
            self.assertEqual(read(written(file)), file)

    def test_many_texts_and_names(self):
        names = tuple(((1, count), "n") for count in range(1, 300))
        texts = tuple(((1, count), str(count)) for count in range(1, 300))
        file = ((1, 1), "a", ((1, 299),), names, texts)
        self.assertEqual(read(written(file)), file)


class Refused(unittest.TestCase):
    def assert_refused(self, text):
        for _ in range(2):
            with self.assertRaises(NoWriting, msg=repr(text)):
                read(text)

    def assert_as_told(self, text):
        """Refused just where the text is no writing; else written of what is read is that very text."""
        told = file_told(text)
        if told is None:
            self.assert_refused(text)
        else:
            self.assertEqual(read(text), told)
            self.assertEqual(written(told), text)

    def test_the_patterns_tell_of_right_ones(self):
        for file, text in WRITINGS:
            self.assertEqual(file_told(text), file)
        for file in drawn_files():
            self.assertEqual(file_told(written(file)), file)

    def test_no_writing_at_all(self):
        for text in ("", ";", ";;;;;", ";;;;", "0.1", "0.1;ab", "a", " ", "0", "0.1;;;;;", "0.1;a;;;;", ";a;0.1;;;",
                     "hello", ";" * 60, "=:,.", "0.1=0:;", "None", "((0, 1), 'a', ((0, 1),), (), ())"):
            self.assert_refused(text)

    def test_cut_anywhere(self):
        for text in [pair[1] for pair in WRITINGS] + [written(file) for file in drawn_files()[::10]]:
            for place in range(len(text)):
                self.assert_refused(text[:place])

    def test_cut_ahead(self):
        for _, text in WRITINGS:
            for place in range(1, len(text)):
                self.assert_as_told(text[place:])

    def test_a_sign_or_itself_behind(self):
        for _, text in WRITINGS:
            for sign in SIGNS:
                self.assert_refused(text + sign)
            self.assert_refused(text + text)
            self.assert_refused(text + "\n")
            self.assert_refused(text + EXAMPLE)

    def test_a_nought_or_a_blank_ahead(self):
        for _, text in WRITINGS:
            for ahead in ("0", " ", "00", "  ", ";", "\n", "+", "-", "_"):
                self.assert_refused(ahead + text)

    def test_a_number_with_a_nought_ahead(self):
        for noughts in ("0", "00"):
            for text in (f"{noughts}0.1;ab;0.1;;;", f"0.{noughts}1;ab;0.1;;;", f"0.1;ab;{noughts}0.1;;;",
                         f"0.1;ab;0.{noughts}1;;;", f"0.1;ab;0.1;{noughts}0.1=b;;", f"0.1;ab;0.1;0.{noughts}1=b;;",
                         f"0.1;ab;0.1;;{noughts}0.1=2:hi;", f"0.1;ab;0.1;;0.{noughts}1=2:hi;",
                         f"0.1;ab;0.1;;0.1={noughts}2:hi;", f"0.1;ab;0.1;;0.1={noughts}0:;"):
                self.assert_refused(text)

    def test_numbers_that_python_would_take(self):
        for number in ("+1", "-1", " 1", "1 ", "1_0", "1.0", "0x1", "1e1", "", "\u0661", "\xb9", "\uff11", "\n1"):
            self.assert_refused(f"{number}.1;a;1.1;;;")
            self.assert_refused(f"1.{number};a;1.1;;;")
            self.assert_refused(f"1.1;a;1.{number};;;")
            self.assert_refused(f"1.1;a;1.10;1.{number}=b;;")
            self.assert_refused(f"1.1;a;1.10;;1.{number}=1:x;")
            self.assert_refused(f"1.1;a;1.1;;1.1={number}:x;")

    def test_a_number_of_signs_that_is_not_the_texts(self):
        for text in ("", "h", "hi", "0123456789", "~" * 60, ";", ";;", "0.2=0:", "0.2=1:;"):
            for number in range(62):
                writing = f"0.1;ab;0.2;;0.1={number}:{text};"
                if number == len(text):
                    self.assertEqual(read(writing)[4], (((0, 1), text),))
                self.assert_as_told(writing)
        for number in ("-1", "-2", "", "x", "2.0", "1" + "0" * 999, "9" * 1200, "9" * 5000, "-0"):
            self.assert_refused(f"0.1;ab;0.1;;0.1={number}:hi;")

    def test_a_text_of_more_than_sixty_signs(self):
        self.assertEqual(read("0.1;ab;0.1;;0.1=60:" + "x" * 60 + ";")[4], (((0, 1), "x" * 60),))
        for length in (61, 62, 100, 1000):
            self.assert_refused(f"0.1;ab;0.1;;0.1={length}:" + "x" * length + ";")

    def test_a_text_with_a_strange_sign(self):
        for sign in ("\n", "\t", "\x1f", "\x7f", "\xe9", "\u2028"):
            self.assert_refused(f"0.1;ab;0.1;;0.1=1:{sign};")

    def test_a_name_that_is_none(self):
        for name in ("", "abcdefg", "A", "a1", "1", "a b", "a-", "a=b", "a.b", "a:b", "ab\n", "\xe9"):
            self.assert_refused(f"0.1;{name};0.1;;;")
            self.assert_refused(f"0.1;a;0.1;0.1={name};;")

    def test_marks_that_do_not_rise(self):
        marks = ("0.1", "0.2", "0.10", "1.1", "1.9", "1.11")
        for several in itertools.product(marks, repeat=3):
            rising = [mark_told(mark) for mark in several]
            right = rising[0] < rising[1] < rising[2]
            names = ",".join(mark + "=b" for mark in several)
            texts = "".join(mark + "=1:x" for mark in several)
            for writing in (f"0.1;a;0.10,1.11;{names};;", f"0.1;a;0.10,1.11;;{texts};"):
                if right:
                    self.assertEqual(written(read(writing)), writing)
                else:
                    self.assert_refused(writing)

    def test_known_that_does_not_rise_or_has_a_house_twice(self):
        for known in ("1.2,0.3", "0.3,0.3", "0.2,0.3", "0.3,0.2", "0.3,1.2,1.3", "0.3,1.2,0.3", "1.1,0.1,2.1"):
            self.assert_refused(f"0.1;ab;{known};;;")

    def test_a_mark_that_is_not_within_known(self):
        for mark in ("0.4", "1.3", "2.1", "5.1", "0.10", "0." + "9" * 1000):
            self.assert_refused(f"{mark};ab;0.3,1.2;;;")
            self.assert_refused(f"0.1;ab;0.3,1.2;{mark}=b;;")
            self.assert_refused(f"0.1;ab;0.3,1.2;;{mark}=2:hi;")

    def test_a_house_or_a_count_that_is_none(self):
        for mark in ("6.1", "10.1", "0.0", "5.0", "9" * 1000 + ".1"):
            self.assert_refused(f"{mark};ab;{mark};;;")
            self.assert_refused(f"0.1;ab;0.1,{mark};;;")
            self.assert_refused(f"0.1;ab;0.1;{mark}=b;;")
            self.assert_refused(f"0.1;ab;0.1;;{mark}=2:hi;")

    def test_commas_where_none_stand(self):
        for text in ("0.1;ab;0.1,;;;", "0.1;ab;,0.1;;;", "0.1;ab;0.1,,1.1;;;", "0.1;ab;,;;;", "0.1;ab;0.1;,;;",
                     "0.1;ab;0.2;0.1=a,;;", "0.1;ab;0.2;,0.1=a;;", "0.1;ab;0.2;0.1=a,,0.2=b;;", "0.1;ab;0.1;;,;",
                     "0.1;ab;0.2;;0.1=1:x,0.2=1:y;", "0.1;ab;0.2;;0.1=1:x,;", "0.1;ab;0.2;;,0.1=1:x;",
                     "0.1;ab;0.2;0.1=a0.2=b;;", "0.1;ab;0.10.1;;;", "0.1,0.1;ab;0.1;;;", "0.1;a,b;0.1;;;"):
            self.assert_refused(text)

    def test_one_sign_left_out(self):
        for _, text in WRITINGS:
            for place in range(len(text)):
                self.assert_as_told(text[:place] + text[place + 1:])

    def test_one_sign_changed(self):
        for _, text in WRITINGS:
            for place in range(len(text)):
                for sign in SIGNS:
                    self.assert_as_told(text[:place] + sign + text[place + 1:])

    def test_one_sign_put_in(self):
        for _, text in WRITINGS:
            for place in range(len(text) + 1):
                for sign in ";:,=.019az ~":
                    self.assert_as_told(text[:place] + sign + text[place:])

    def test_several_signs_of_chance(self):
        chance = Random(13)
        signs = ";:,=.0123456" + string.ascii_lowercase[:3]
        again = 0
        for _ in range(20000):
            text = chance.choice(WRITINGS)[1]
            for _ in range(chance.randint(1, 3)):
                place = chance.randint(0, len(text))
                text = text[:place] + chance.choice(("", chance.choice(signs))) + text[place + chance.randint(0, 1):]
            again += file_told(text) is not None
            self.assert_as_told(text)
        self.assertGreater(again, 1000)


if __name__ == "__main__":
    unittest.main()
