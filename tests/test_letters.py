import unittest

from helper import drawn_houses, everything_of
from twinshelves.houses import House
from twinshelves.journals import row_of, rows_in
from twinshelves.letters import letter, take_letter
from twinshelves.meetings import in_step


def house_with_files():
    """House 0 with three files that stand, one of them taken, and with a gone one."""
    house = House(0)
    house.make("a", "one")
    house.take(((2, 3), "c", ((2, 3), (3, 1)), (((3, 1), "d"),), (((2, 3), "a;b"),)))
    house.make("b", "")
    house.drop((0, 2))
    house.make("a", "two")
    return house


ROWS = ("0.4/21:0.1;a;0.1;;0.1=3:one;", "0.4/12:0.2;b;0.3;;;", "0.4/21:0.4;a;0.4;;0.4=3:two;",
        "0.4/30:2.3;c;2.3,3.1;3.1=d;2.3=3:a;b;")
IDS = ((0, 1), (0, 2), (0, 4), (2, 3))


class Letter(unittest.TestCase):
    def test_one_who_lacks_all(self):
        self.assertEqual(letter(house_with_files(), ()), "".join(ROWS))

    def test_one_who_lacks_nothing(self):
        house = house_with_files()
        self.assertEqual(letter(house, house.heard()), "")
        more = tuple((which, known + ((5, 1),)) for which, known in house.heard()) + (((4, 1), ((4, 1),)),)
        self.assertEqual(letter(house, more), "")
        self.assertEqual(letter(House(0), ()), "")
        self.assertEqual(letter(House(0), house.heard()), "")

    def test_one_who_lacks_something(self):
        house = house_with_files()
        heard = house.heard()
        for place in range(4):
            self.assertEqual(letter(house, heard[:place] + heard[place + 1:]), ROWS[place])
            self.assertEqual(letter(house, (heard[place],)), "".join(ROWS[:place] + ROWS[place + 1:]))
        self.assertEqual(letter(house, heard[:3] + (((2, 3), ((2, 3),)),)), ROWS[3])
        self.assertEqual(letter(house, heard[:1] + (((0, 2), ((0, 2),)),) + heard[2:]), ROWS[1])

    def test_rows_rise_by_ids_and_not_by_figures(self):
        house = House(0)
        made = [house.make("a", "") for _ in range(12)]
        text = letter(house, ())
        self.assertEqual(rows_in(text), tuple(row_of(house, which) for which in made))

    def test_it_changes_nothing(self):
        house = house_with_files()
        before = everything_of(house)
        self.assertEqual(letter(house, ()), letter(house, ()))
        self.assertEqual(everything_of(house), before)

    def test_drawn_houses(self):
        for seed in range(20):
            one, other = drawn_houses(seed, 2, House)
            news = one.news_for(other.heard())
            self.assertEqual(letter(one, other.heard()), "".join(row_of(one, file[0]) for file in news))
            self.assertEqual(rows_in(letter(one, ())), tuple(row_of(one, which) for which, _ in one.heard()))


class TakeLetter(unittest.TestCase):
    def setUp(self):
        self.sender = house_with_files()
        self.text = letter(self.sender, ())
        self.taker = House(1)

    def test_whole(self):
        self.assertEqual(take_letter(self.taker, self.text), 4)
        self.assertIs(in_step(self.sender, self.taker), True)
        self.assertEqual((self.taker.number(), self.taker.count()), (1, 0))

    def test_none(self):
        for text in ("", " ", "hello", "0.4/21:", ROWS[0][:-1], "x" + self.text):
            before = everything_of(self.taker)
            self.assertEqual(take_letter(self.taker, text), 0)
            self.assertEqual(everything_of(self.taker), before)

    def test_twice(self):
        take_letter(self.taker, self.text)
        before = everything_of(self.taker)
        self.assertEqual(take_letter(self.taker, self.text), 0)
        self.assertEqual(everything_of(self.taker), before)
        self.assertEqual(take_letter(House(1), self.text + self.text), 4)

    def test_by_the_sender(self):
        before = everything_of(self.sender)
        self.assertEqual(take_letter(self.sender, self.text), 0)
        self.assertEqual(everything_of(self.sender), before)

    def test_broken_off_at_every_place(self):
        ends = [len("".join(ROWS[:many])) for many in range(1, 5)]
        for place in range(len(self.text) + 1):
            taker = House(1)
            whole = sum(end <= place for end in ends)
            self.assertEqual(take_letter(taker, self.text[:place]), whole)
            self.assertEqual(taker.ids() + taker.gone(), tuple(
                which for which in IDS[:whole] if which != (0, 2)) + IDS[1:2] * (whole > 1))
            self.assertEqual(take_letter(taker, self.text), 4 - whole)
            self.assertIs(in_step(self.sender, taker), True)

    def test_a_spoilt_row_ends_it(self):
        text = ROWS[0] + "0" + "".join(ROWS[1:])
        self.assertEqual(take_letter(self.taker, text), 1)
        self.assertEqual(self.taker.heard(), (((0, 1), ((0, 1),)),))

    def test_only_rows_that_changed_something_count(self):
        self.taker.take(self.sender.file((0, 1)))
        self.taker.take(self.sender.file((2, 3)))
        self.assertEqual(take_letter(self.taker, self.text), 2)
        self.assertEqual(take_letter(self.taker, ROWS[1]), 0)
        self.taker.write((0, 1), "own")
        self.assertEqual(take_letter(self.taker, self.text), 0)
        self.assertEqual(self.taker.text_of((0, 1)), "own")

    def test_late(self):
        self.sender.write((0, 1), "later")
        self.assertEqual(take_letter(self.taker, letter(self.sender, ())), 4)
        before = everything_of(self.taker)
        self.assertEqual(take_letter(self.taker, self.text), 0)
        self.assertEqual(everything_of(self.taker), before)
        self.assertEqual(self.taker.text_of((0, 1)), "later")

    def test_by_another_house_than_meant(self):
        third = House(4)
        third.take(self.sender.file((2, 3)))
        third.write((2, 3), "third")
        text = letter(self.sender, self.taker.heard())
        self.assertEqual(take_letter(third, text), 3)
        self.assertEqual(third.text_of((2, 3)), "third")
        self.assertEqual(take_letter(self.taker, letter(third, ())), 4)
        self.assertIs(in_step(third, self.taker), True)

    def test_files_are_put_together(self):
        self.taker.take(self.sender.file((0, 1)))
        self.taker.write((0, 1), "other")
        self.sender.write((0, 1), "one")
        self.sender.rename((0, 1), "z")
        self.assertEqual(take_letter(self.taker, letter(self.sender, ())), 4)
        self.assertEqual(self.taker.quarrels(), (((0, 1), ("text",)),))
        self.assertEqual(take_letter(self.sender, letter(self.taker, self.sender.heard())), 1)
        self.assertIs(in_step(self.sender, self.taker), True)
        self.assertEqual(self.sender.file((0, 1))[3], (((0, 6), "z"),))

    def test_one_file_in_two_rows(self):
        self.sender.write((0, 1), "later")
        later = row_of(self.sender, (0, 1))
        self.assertEqual(take_letter(House(1), ROWS[0] + later), 2)
        self.assertEqual(take_letter(House(1), later + ROWS[0]), 1)
        self.assertEqual(take_letter(House(1), later + later), 1)

    def test_a_gone_file_is_taken_newly(self):
        self.assertEqual(take_letter(self.taker, ROWS[1]), 1)
        self.assertEqual(self.taker.gone(), ((0, 2),))

    def test_who_told_what_it_heard_lacks_nothing_behind_its_letter(self):
        for seed in range(20):
            one, other = drawn_houses(seed, 2, House)
            for sender, taker in ((one, other), (other, one)):
                news = sender.news_for(taker.heard())
                self.assertEqual(take_letter(taker, letter(sender, taker.heard())), len(news))
                self.assertEqual(letter(sender, taker.heard()), "")
            self.assertIs(in_step(one, other), True)


if __name__ == "__main__":
    unittest.main()
