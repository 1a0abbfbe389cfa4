import re
import unittest
from random import Random

from helper import SIGNS, Story, everything_of, files_of_chance, odd_files
from twinshelves.errors import NoFile, NoWriting
from twinshelves.houses import House
from twinshelves.journals import row_of, rows_in, woken
from twinshelves.reading import read
from twinshelves.writing import written

# Rows put down by hand, each with its house's number and count, and with its file.
ROWS = (
    ("0.1/21:0.1;ab;0.1;;0.1=2:hi;", 0, 1, ((0, 1), "ab", ((0, 1),), (), (((0, 1), "hi"),))),
    ("0.2/13:0.1;ab;0.2;;;", 0, 2, ((0, 1), "ab", ((0, 2),), (), ())),
    ("1.0/18:0.3;x;0.3;;0.3=0:;", 1, 0, ((0, 3), "x", ((0, 3),), (), (((0, 3), ""),))),
    ("0.10/36:0.1;ab;0.3,1.2;1.2=b;0.1=2:hi0.3=0:;", 0, 10,
     ((0, 1), "ab", ((0, 3), (1, 2)), (((1, 2), "b"),), (((0, 1), "hi"), ((0, 3), "")))),
    # A text that looks like a row, and one of the signs that stand between the parts.
    ("5.120/44:5.9;q;5.9;;5.9=25:0.1/18:0.1;a;0.1;;0.1=0:;;", 5, 120,
     ((5, 9), "q", ((5, 9),), (), (((5, 9), "0.1/18:0.1;a;0.1;;0.1=0:;"),))),
    ("0.4/25:0.4;a;0.4;;0.4=7:;:/,=.;;", 0, 4, ((0, 4), "a", ((0, 4),), (), (((0, 4), ";:/,=.;"),))),
)
TEXTS = tuple(row[0] for row in ROWS)
JOURNAL = "".join(TEXTS)


def head_told(head):
    """The number, the count and the number of signs of a row's head."""
    found = re.fullmatch(r"([0-5])\.(0|[1-9][0-9]*)/(0|[1-9][0-9]*):", head)
    return found and tuple(int(part) for part in found.groups())


def rows_told(journal):
    """The words of 6.1, once more: all whole rows, each with its number, its count and its file."""
    rows = []
    while True:
        head = journal[:journal.find(":") + 1]
        numbers = head_told(head)
        if numbers is None or len(journal) < len(head) + numbers[2]:
            return rows
        row, journal = journal[:len(head) + numbers[2]], journal[len(head) + numbers[2]:]
        try:
            rows.append((row, numbers[0], numbers[1], read(row[len(head):])))
        except NoWriting:
            return rows


def with_file(number, count, file):
    house = House(number)
    for _ in range(count):
        house.make("z", "")
    house.take(file)
    return house


def journal_of_a_story(seed, times=25):
    """The rows of a house that acts and takes: each with what the house told when it was written."""
    story = Story(seed, 3, House)
    rows = []
    for _ in range(times):
        other = story.chance.choice((1, 2))
        story.act(other)
        brought = story.chance.choice(story.files_of(other))
        if story.chance.random() < 0.4:
            story.take(0, brought)
            which = brought[0][0]
        else:
            mark = (0, story.houses[0].count() + 1)
            story.act(0)
            which = story.acts[mark][0]
        rows.append((row_of(story.houses[0], which), everything_of(story.houses[0])))
    return rows


class RowOf(unittest.TestCase):
    def test_as_the_document_writes_it(self):
        house = House(0)
        which = house.make("ab", "hi")
        self.assertEqual(row_of(house, which), "0.1/21:0.1;ab;0.1;;0.1=2:hi;")
        house.make("c", "")
        self.assertEqual(row_of(house, which), "0.2/21:0.1;ab;0.1;;0.1=2:hi;")
        house.rename(which, "b")
        self.assertEqual(row_of(house, which), "0.3/26:0.1;ab;0.3;0.3=b;0.1=2:hi;")

    def test_a_gone_file(self):
        house = House(4)
        which = house.make("ab", "hi")
        house.drop(which)
        self.assertEqual(row_of(house, which), "4.2/13:4.1;ab;4.2;;;")

    def test_rows_put_down_by_hand(self):
        for row, number, count, file in ROWS:
            if number != file[0][0]:
                self.assertEqual(row_of(with_file(number, count, file), file[0]), row)
        self.assertEqual(row_of(with_file(3, 0, ROWS[0][3]), (0, 1)), "3.0/21:0.1;ab;0.1;;0.1=2:hi;")
        self.assertEqual(row_of(with_file(3, 11, ROWS[0][3]), (0, 1)), "3.11/21:0.1;ab;0.1;;0.1=2:hi;")

    def test_drawn_files(self):
        for file in files_of_chance(31, 60) + odd_files(32, 60):
            house = House(5)
            house.take(file)
            writing = written(file)
            self.assertEqual(row_of(house, file[0]), f"5.0/{len(writing)}:{writing}")
            self.assertEqual(rows_in(row_of(house, file[0])), (row_of(house, file[0]),))

    def test_a_file_that_the_house_has_not(self):
        house = House(0)
        house.drop(house.make("a", ""))
        for which in ((0, 2), (0, 3), (1, 1), (5, 10 ** 999)):
            with self.assertRaises(NoFile):
                row_of(house, which)
        house.forget(())
        with self.assertRaises(NoFile):
            row_of(house, (0, 1))
        with self.assertRaises(NoFile):
            row_of(House(0), (0, 1))

    def test_it_changes_nothing(self):
        house = with_file(3, 2, ROWS[3][3])
        before = everything_of(house)
        self.assertEqual(row_of(house, (0, 1)), row_of(house, (0, 1)))
        self.assertEqual(everything_of(house), before)


class RowsIn(unittest.TestCase):
    def assert_spoilt(self, row):
        """No row stands there: by itself, nor ahead of others, and behind others these alone are told."""
        self.assertEqual(rows_in(row), (), row)
        self.assertEqual(rows_in(row + JOURNAL), (), row)
        self.assertEqual(rows_in(JOURNAL + row), TEXTS, row)
        self.assertEqual(rows_in(TEXTS[0] + row + JOURNAL), TEXTS[:1], row)

    def test_nothing(self):
        self.assertEqual(rows_in(""), ())

    def test_one_row(self):
        for row in TEXTS:
            self.assertEqual(rows_in(row), (row,))

    def test_rows_one_behind_the_other(self):
        self.assertEqual(rows_in(JOURNAL), TEXTS)
        self.assertEqual(rows_in(JOURNAL), TEXTS)
        self.assertEqual(rows_in(JOURNAL + JOURNAL), TEXTS + TEXTS)
        self.assertEqual(rows_in(TEXTS[0] * 50), TEXTS[:1] * 50)
        for many in range(len(TEXTS) + 1):
            self.assertEqual(rows_in("".join(TEXTS[:many])), TEXTS[:many])

    def test_cut_at_every_place(self):
        ends = [len("".join(TEXTS[:many])) for many in range(1, len(TEXTS) + 1)]
        for place in range(len(JOURNAL) + 1):
            whole = sum(end <= place for end in ends)
            self.assertEqual(rows_in(JOURNAL[:place]), TEXTS[:whole])

    def test_cut_ahead_at_every_place(self):
        for place in range(len(JOURNAL) + 1):
            self.assertEqual(rows_in(JOURNAL[place:]), tuple(row[0] for row in rows_told(JOURNAL[place:])))

    def test_a_row_broken_off_with_others_behind(self):
        for row in TEXTS:
            for place in range(1, len(row)):
                text = TEXTS[1] + row[:place] + JOURNAL
                self.assertEqual(rows_in(text), tuple(told[0] for told in rows_told(text)))

    def test_a_strange_sign_ahead(self):
        for sign in SIGNS + "\n\t":
            for row in TEXTS:
                self.assert_spoilt(sign + row)

    def test_a_nought_ahead(self):
        for head in ("00.1/21:", "0.01/21:", "0.1/021:", "00.01/021:", "0.00/21:", "0.1/0021:"):
            self.assert_spoilt(head + "0.1;ab;0.1;;0.1=2:hi;")

    def test_numbers_that_python_would_take(self):
        for number in ("+1", "-1", " 1", "1 ", "1_0", "1.0", "", "0x1", "1e1", "\xb9", "\u0661", "\n1"):
            self.assert_spoilt(f"{number}.1/21:0.1;ab;0.1;;0.1=2:hi;")
            self.assert_spoilt(f"0.{number}/21:0.1;ab;0.1;;0.1=2:hi;")
        for number in ("+21", "-21", " 21", "21 ", "2_1", "21.0", "", "0x15", "\uff12\uff11", "-0", "-1"):
            self.assert_spoilt(f"0.1/{number}:0.1;ab;0.1;;0.1=2:hi;")

    def test_a_number_of_signs_that_is_not_the_writings(self):
        for row in TEXTS:
            head, writing = row[:row.index(":")], row[row.index(":") + 1:]
            state, right = head.split("/")
            for number in range(70):
                if number != int(right):
                    self.assert_spoilt(f"{state}/{number}:{writing}")
        for number in ("1" + "0" * 999, "9" * 1000, "9" * 5000):
            self.assert_spoilt(f"0.1/{number}:0.1;ab;0.1;;0.1=2:hi;")

    def test_a_writing_that_is_none(self):
        for writing in ("", ";", "0.1", "hello", ";;;;;", "0.1;ab;0.1;;0.1=2:hi", "0.1;ab;0.1;;0.1=2:hi;;",
                        "0.1;ab;0.1;;0.1=1:hi;", "0.1;ab;0.1;;0.1=3:hi;", "00.1;ab;0.1;;0.1=2:hi;",
                        "0.1;ab;;;0.1=2:hi;", "0.1;ab;0.1;;0.2=2:hi;", "0.1;AB;0.1;;0.1=2:hi;", "0.1;;0.1;;;",
                        "6.1;ab;6.1;;;", "0.0;ab;0.1;;;", "0.1;abcdefg;0.1;;;", "0.1;ab;0.1;;0.1=61:" + "x" * 61 + ";"):
            self.assert_spoilt(f"0.1/{len(writing)}:{writing}")

    def test_a_writing_with_a_sign_doubled(self):
        spoilt = 0
        for row in TEXTS:
            head, writing = row[:row.index(":")], row[row.index(":") + 1:]
            for place in range(len(writing)):
                doubled = writing[:place] + writing[place] + writing[place:]
                for many in (len(writing), len(doubled)):
                    text = f"{head.split('/')[0]}/{many}:{doubled}"
                    told = tuple(one[0] for one in rows_told(text))
                    spoilt += told == ()
                    self.assertEqual(rows_in(text), told)
                    self.assertEqual(rows_in(JOURNAL + text), TEXTS + told)
        self.assertGreater(spoilt, 200)

    def test_other_signs_between_the_parts(self):
        for head in ("0,1/21:", "0.1.1/21:", "0/1.21:", "0.1:21/", "0.1/21;", "0.1/21/", "0.1//21:", "0.1/:", "0./21:",
                     ".1/21:", "/21:", "0.1:", "21:", ":", "0.1/21::", "0.1/21: ", "0 .1/21:", "0.1 /21:", "0.1/21",
                     "01/21:", "0.121:", "0.1/2/1:"):
            self.assert_spoilt(head + "0.1;ab;0.1;;0.1=2:hi;")

    def test_a_number_that_no_house_has(self):
        for number in ("6", "7", "10", "99", "9" * 1000):
            self.assert_spoilt(f"{number}.1/21:0.1;ab;0.1;;0.1=2:hi;")

    def test_counts_of_any_size(self):
        for count in (0, 1, 9, 10, 10 ** 999, 10 ** 1000 - 1):
            row = f"3.{count}/21:0.1;ab;0.1;;0.1=2:hi;"
            self.assertEqual(rows_in(row), (row,))

    def test_signs_behind_the_last_row(self):
        for behind in (" ", "\n", ";", "0", "0.1", "0.1/", "0.1/21", "0.1/21:", "hello", ":", "/"):
            self.assertEqual(rows_in(JOURNAL + behind), TEXTS)
            self.assertEqual(rows_in(behind), ())
            self.assertEqual(rows_in(TEXTS[0] + behind + JOURNAL), TEXTS[:1])

    def test_no_row_at_all(self):
        for text in ("hello", ":", "/", ".", "0", ";;;;;", SIGNS, "0.1;ab;0.1;;0.1=2:hi;", "21:0.1;ab;0.1;;0.1=2:hi;"):
            self.assert_spoilt(text)

    def test_signs_changed_left_out_and_put_in(self):
        chance = Random(33)
        whole = 0
        for _ in range(6000):
            text = JOURNAL
            for _ in range(chance.randint(1, 2)):
                place = chance.randrange(len(text))
                text = text[:place] + chance.choice(("", chance.choice(";:,=./0123456ab"))) \
                    + text[place + chance.randint(0, 1):]
            told = tuple(row[0] for row in rows_told(text))
            whole += len(told)
            self.assertEqual(rows_in(text), told)
        self.assertGreater(whole, 6000)

    def test_a_long_journal(self):
        self.assertEqual(rows_in(JOURNAL * 2000 + "0"), TEXTS * 2000)


class Woken(unittest.TestCase):
    def assert_woken(self, journal, number, count, heard):
        house = woken(journal)
        self.assertIsInstance(house, House)
        self.assertEqual((house.number(), house.count(), house.heard()), (number, count, heard))
        self.assertEqual(house.make("new", ""), (number, count + 1))

    def test_of_none(self):
        for journal in ("", " ", "hello", "0.1/21:", TEXTS[2][:-1], "x" + JOURNAL):
            house = woken(journal)
            self.assertEqual(everything_of(house), everything_of(House(0)))
            self.assertEqual(house.make("a", ""), (0, 1))

    def test_of_one_row(self):
        for row, number, count, file in ROWS:
            house = woken(row)
            self.assertEqual((house.number(), house.count()), (number, count))
            self.assertEqual(house.news_for(()), (file,))
            self.assertEqual(house.can_forget((0, 1, 2, 3, 4, 5)), ())

    def test_the_number_of_the_first_row_and_the_greatest_count_of_its_own(self):
        self.assert_woken(TEXTS[2], 1, 0, (((0, 3), ((0, 3),)),))
        self.assert_woken(TEXTS[2] + TEXTS[0], 1, 0, (((0, 1), ((0, 1),)), ((0, 3), ((0, 3),))))
        self.assert_woken(TEXTS[0] + TEXTS[2], 0, 1, (((0, 1), ((0, 1),)), ((0, 3), ((0, 3),))))
        self.assert_woken(TEXTS[1] + TEXTS[0], 0, 2, (((0, 1), ((0, 2),)),))
        self.assert_woken(TEXTS[0] + TEXTS[4], 0, 1, (((0, 1), ((0, 1),)), ((5, 9), ((5, 9),))))
        self.assert_woken(TEXTS[4] + TEXTS[3], 5, 120, (((0, 1), ((0, 3), (1, 2))), ((5, 9), ((5, 9),))))
        nine, ten = "2.9/13:0.1;ab;0.2;;;", "2.10/13:0.1;ab;0.2;;;"
        for journal in (nine + ten, ten + nine, ten + ten, nine + ten + nine):
            self.assert_woken(journal, 2, 10, (((0, 1), ((0, 2),)),))
        self.assert_woken(nine + TEXTS[4] + nine, 2, 9, (((0, 1), ((0, 2),)), ((5, 9), ((5, 9),))))

    def test_the_count_is_that_of_the_rows_and_not_that_of_marks(self):
        self.assert_woken("0.2/13:0.1;ab;0.9;;;", 0, 2, (((0, 1), ((0, 9),)),))
        self.assert_woken("1.7/13:0.1;ab;0.9;;;", 1, 7, (((0, 1), ((0, 9),)),))

    def test_files_are_put_together(self):
        one = "2.1/21:0.1;ab;0.2;;0.2=2:hi;"
        other = "2.1/25:0.1;ab;0.1,1.1;;1.1=2:ho;"
        self.assertEqual(rows_in(one + other), (one, other))
        both = ((0, 1), "ab", ((0, 2), (1, 1)), (), (((0, 2), "hi"), ((1, 1), "ho")))
        for journal in (one + other, other + one, one + other + one):
            self.assertEqual(woken(journal).file((0, 1)), both)
            self.assertEqual(woken(journal).quarrels(), (((0, 1), ("text",)),))

    def test_rows_behind_the_first_spoilt_one_are_not_taken(self):
        house = woken(TEXTS[0] + "0" + TEXTS[3] + TEXTS[4])
        self.assertEqual((house.number(), house.count(), house.heard()), (0, 1, (((0, 1), ((0, 1),)),)))

    def test_a_gone_file_wakes_as_a_gone_one(self):
        house = woken(TEXTS[0] + TEXTS[1])
        self.assertEqual((house.ids(), house.gone()), ((), ((0, 1),)))

    def test_each_time_another_house(self):
        one, other = woken(JOURNAL), woken(JOURNAL)
        self.assertEqual(everything_of(one), everything_of(other))
        one.make("a", "")
        self.assertNotEqual(everything_of(one), everything_of(other))
        self.assertEqual(everything_of(other), everything_of(woken(JOURNAL)))

    def test_a_story_broken_off_at_every_place(self):
        for seed in range(4):
            rows = journal_of_a_story(seed)
            journal = "".join(row for row, _ in rows)
            told = everything_of(House(0))
            whole, end = 0, 0
            for place in range(len(journal) + 1):
                if whole < len(rows) and place == end + len(rows[whole][0]):
                    end, told, whole = place, rows[whole][1], whole + 1
                self.assertEqual(rows_in(journal[:place]), tuple(row for row, _ in rows[:whole]))
                if place - end < 3 or place % 7 == 0:
                    self.assertEqual(everything_of(woken(journal[:place])), told)
            self.assertEqual(whole, len(rows))

    def test_acts_whose_rows_were_lost_are_as_if_never_done(self):
        house = House(3)
        which = house.make("a", "one")
        journal = row_of(house, which)
        house.write(which, "lost")
        lost = row_of(house, which)
        for place in range(len(lost)):
            again = woken(journal + lost[:place])
            self.assertEqual((again.count(), again.text_of(which)), (1, "one"))
            again.rename(which, "b")
            self.assertEqual(again.file(which), (which, "a", ((3, 2),), (((3, 2), "b"),), (((3, 1), "one"),)))
            self.assertEqual(row_of(again, which), "3.2/26:3.1;a;3.2;3.2=b;3.1=3:one;")

    def test_woken_and_gone_on_with(self):
        house = House(1)
        journal = row_of(house, house.make("a", "x"))
        for time in range(12):
            house = woken(journal + "1.99/")
            house.write((1, 1), str(time))
            journal += row_of(house, (1, 1))
        self.assertEqual(woken(journal).file((1, 1)), ((1, 1), "a", ((1, 13),), (), (((1, 13), "11"),)))
        self.assertEqual(len(rows_in(journal)), 13)


if __name__ == "__main__":
    unittest.main()
