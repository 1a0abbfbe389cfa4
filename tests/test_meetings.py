import itertools
import unittest

from helper import drawn_houses, everything_of
from twinshelves.houses import House
from twinshelves.meetings import Meeting, in_step

BOTH_HAVE, ONE_WROTE, OTHER_WROTE, BOTH_WROTE = (0, 1), (0, 2), (0, 3), (0, 4)


def two_houses():
    """Houses 0 and 1; some files are the same in both, others were changed here, there, or in both."""
    one, other = House(0), House(1)
    for name in "abcd":
        other.take(one.file(one.make(name, "old")))
    one.write(ONE_WROTE, "one")                 # 0.5
    one.rename(BOTH_WROTE, "one")               # 0.6
    other.write(BOTH_WROTE, "other")            # 1.1
    other.drop(OTHER_WROTE)                     # 1.2
    for _ in range(4):
        one.make("new", "")                     # 0.7 to 0.10
    other.drop(other.make("gone", ""))          # 1.3, 1.4
    return (one, other)


ROWS = ((1, (0, 2)), (0, (0, 3)), (0, (0, 4)), (1, (0, 4)), (1, (0, 7)), (1, (0, 8)), (1, (0, 9)), (1, (0, 10)),
        (0, (1, 3)))


def has_more(known, than):
    return any(count > dict(than).get(house, 0) for house, count in known)


def rows_told(one, other):
    """The words of 3.1, once more, by what both heard."""
    heard = (dict(one.heard()), dict(other.heard()))
    rows = []
    for which in sorted(set(heard[0]) | set(heard[1])):
        for to in (0, 1):
            if which in heard[1 - to] and has_more(heard[1 - to][which], heard[to].get(which, ())):
                rows.append((to, which))
    return tuple(rows)


class Rows(unittest.TestCase):
    def test_the_rows_of_the_beginning(self):
        one, other = two_houses()
        self.assertEqual(Meeting(one, other).rows(), ROWS)
        turned = tuple(sorted(((1 - to, which) for to, which in ROWS), key=lambda row: (row[1], row[0])))
        self.assertEqual(Meeting(other, one).rows(), turned)

    def test_rows_of_drawn_houses(self):
        both_ways = 0
        for seed in range(40):
            for one, other in itertools.permutations(drawn_houses(seed, 3, House), 2):
                rows = Meeting(one, other).rows()
                self.assertEqual(rows, rows_told(one, other))
                both_ways += len(rows) - len({which for _, which in rows})
        self.assertGreater(both_ways, 50)

    def test_to_begin_changes_no_house(self):
        one, other = two_houses()
        before = (everything_of(one), everything_of(other))
        meeting = Meeting(one, other)
        meeting.rows()
        self.assertEqual((everything_of(one), everything_of(other)), before)
        self.assertEqual((one.can_forget((1,)), other.can_forget((0,))), ((), ()))

    def test_houses_without_files(self):
        one, other = House(0), House(1)
        meeting = Meeting(one, other)
        self.assertEqual(meeting.rows(), ())
        self.assertIs(meeting.step(), None)
        self.assertEqual(meeting.rest(), 0)
        which = one.make("a", "")
        self.assertEqual(Meeting(one, other).rows(), ((1, which),))
        self.assertEqual(Meeting(other, one).rows(), ((0, which),))

    def test_a_gone_file_is_brought_too(self):
        one, other = House(0), House(1)
        which = one.make("a", "")
        one.drop(which)
        meeting = Meeting(one, other)
        self.assertEqual(meeting.rows(), ((1, which),))
        self.assertEqual(meeting.step(), (1, which))
        self.assertEqual(other.gone(), (which,))

    def test_a_house_that_meets_itself(self):
        one = two_houses()[0]
        before = everything_of(one)
        self.assertEqual(Meeting(one, one).rows(), ())
        self.assertEqual(Meeting(one, one).rest(), 0)
        self.assertEqual(everything_of(one), before)


class Steps(unittest.TestCase):
    def test_each_step_tells_its_row_and_brings_this_file_alone(self):
        houses = two_houses()
        meeting = Meeting(*houses)
        for place, row in enumerate(ROWS):
            self.assertEqual(meeting.rows(), ROWS[place:])
            to, which = row
            giver = everything_of(houses[1 - to])
            others = [file for file in houses[to].news_for(()) if file[0] != which]
            self.assertEqual(meeting.step(), row)
            self.assertEqual(everything_of(houses[1 - to]), giver)
            self.assertEqual([file for file in houses[to].news_for(()) if file[0] != which], others)
            self.assertNotIn(houses[1 - to].file(which), houses[1 - to].news_for(houses[to].heard()))
        self.assertEqual(meeting.rows(), ())

    def test_what_the_steps_bring(self):
        one, other = two_houses()
        meeting = Meeting(one, other)
        meeting.step()
        self.assertEqual(other.file(ONE_WROTE), (ONE_WROTE, "b", ((0, 5),), (), (((0, 5), "one"),)))
        meeting.step()
        self.assertEqual(one.file(OTHER_WROTE), (OTHER_WROTE, "c", ((0, 3), (1, 2)), (), ()))
        meeting.step()
        both = (BOTH_WROTE, "d", ((0, 6), (1, 1)), (((0, 6), "one"),), (((1, 1), "other"),))
        self.assertEqual(one.file(BOTH_WROTE), both)
        self.assertNotEqual(other.file(BOTH_WROTE), both)
        meeting.step()
        self.assertEqual(other.file(BOTH_WROTE), both)

    def test_none_where_no_row_is_left(self):
        one, other = two_houses()
        meeting = Meeting(one, other)
        for row in ROWS:
            self.assertEqual(meeting.step(), row)
        one.write(BOTH_HAVE, "later")
        other.make("later", "")
        before = (everything_of(one), everything_of(other))
        for _ in range(3):
            self.assertIs(meeting.step(), None)
            self.assertEqual(meeting.rest(), 0)
            self.assertEqual(meeting.rows(), ())
        self.assertEqual((everything_of(one), everything_of(other)), before)

    def test_rest_tells_how_many_were_left(self):
        for steps in range(len(ROWS) + 1):
            one, other = two_houses()
            meeting = Meeting(one, other)
            for _ in range(steps):
                meeting.step()
            self.assertEqual(meeting.rest(), len(ROWS) - steps)
            self.assertEqual(meeting.rows(), ())
            self.assertEqual(meeting.rest(), 0)
            self.assertIs(in_step(one, other), True)

    def test_rows_asked_again_are_the_same(self):
        meeting = Meeting(*two_houses())
        meeting.step()
        self.assertEqual(meeting.rows(), ROWS[1:])
        self.assertEqual(meeting.rows(), ROWS[1:])

    def test_a_house_that_does_not_meet_stays_as_it_is(self):
        one, other = two_houses()
        third = House(2)
        third.take(one.file(ONE_WROTE))
        third.write(ONE_WROTE, "third")
        third.make("x", "")
        before = everything_of(third)
        Meeting(one, other).rest()
        self.assertEqual(everything_of(third), before)

    def test_counts_and_numbers_stay(self):
        one, other = two_houses()
        Meeting(one, other).rest()
        self.assertEqual((one.number(), one.count(), other.number(), other.count()), (0, 10, 1, 4))


class Between(unittest.TestCase):
    def setUp(self):
        self.one, self.other = two_houses()
        self.meeting = Meeting(self.one, self.other)

    def test_acts_between_two_steps_are_brought_and_the_rows_stay(self):
        self.one.write(ONE_WROTE, "again")
        self.one.drop((0, 10))
        self.assertEqual(self.meeting.rows(), ROWS)
        self.assertEqual(self.meeting.rest(), len(ROWS))
        self.assertEqual(self.other.file(ONE_WROTE), (ONE_WROTE, "b", ((0, 11),), (), (((0, 11), "again"),)))
        self.assertEqual(self.other.gone(), (OTHER_WROTE, (0, 10), (1, 3)))

    def test_what_is_made_or_changed_without_a_row_is_not_brought(self):
        self.one.write(BOTH_HAVE, "later")
        new = self.other.make("later", "")
        self.assertEqual(self.meeting.rows(), ROWS)
        self.meeting.rest()
        self.assertEqual(self.other.text_of(BOTH_HAVE), "old")
        self.assertNotIn(new, self.one.ids())
        self.assertIs(in_step(self.one, self.other), False)
        self.assertEqual(Meeting(self.one, self.other).rows(), ((1, BOTH_HAVE), (0, new)))

    def test_a_change_of_the_taker_is_kept(self):
        self.other.write(ONE_WROTE, "other")
        self.assertEqual(self.meeting.step(), (1, ONE_WROTE))
        self.assertEqual(self.other.quarrels(), ((ONE_WROTE, ("text",)),))
        self.assertEqual(self.one.quarrels(), ())
        self.meeting.rest()
        self.assertEqual(self.one.quarrels(), ())
        self.assertEqual(Meeting(self.one, self.other).rows(), ((0, ONE_WROTE),))

    def test_a_change_between_the_two_rows_of_one_file_is_brought(self):
        for _ in range(3):
            self.meeting.step()
        self.one.write(BOTH_WROTE, "both")
        self.assertEqual(self.meeting.step(), (1, BOTH_WROTE))
        self.assertEqual(self.other.text_of(BOTH_WROTE), "both")
        self.assertEqual(self.other.file(BOTH_WROTE), self.one.file(BOTH_WROTE))

    def test_a_file_that_the_other_house_forgot_meanwhile_is_not_brought(self):
        self.other.forget(())
        self.one.drop((0, 7))
        self.one.forget(())
        self.assertEqual(self.meeting.rows(), ROWS)
        told = [self.meeting.step() for _ in ROWS]
        self.assertEqual(tuple(told), ROWS)
        for house in (self.one, self.other):
            for which in ((0, 7), (1, 3)):
                self.assertNotIn(which, house.ids() + house.gone())
        self.assertNotIn((0, 3), self.other.ids() + self.other.gone())
        self.assertEqual(self.one.text_of((0, 3)), "old")

    def test_forgotten_rows_count_for_rest(self):
        self.other.forget(())
        self.assertEqual(self.meeting.rest(), len(ROWS))

    def test_a_step_of_a_forgotten_file_changes_nothing(self):
        for row in ROWS[:-1]:
            self.meeting.step()
        self.other.forget(())
        before = (everything_of(self.one), everything_of(self.other))
        self.assertEqual(self.meeting.step(), ROWS[-1])
        self.assertEqual((everything_of(self.one), everything_of(self.other)), before)
        self.assertIs(self.meeting.step(), None)

    def test_a_gone_file_that_the_taker_forgot_is_brought_as_a_gone_one(self):
        self.meeting.rest()
        self.one.forget(())
        meeting = Meeting(self.one, self.other)
        self.assertEqual(meeting.rows(), ((0, OTHER_WROTE), (0, (1, 3))))
        meeting.rest()
        self.assertEqual(self.one.gone(), (OTHER_WROTE, (1, 3)))
        self.assertIs(in_step(self.one, self.other), True)

    def test_two_meetings_at_the_same_time(self):
        second = Meeting(self.one, self.other)
        self.assertEqual(self.meeting.rest(), len(ROWS))
        before = (everything_of(self.one), everything_of(self.other))
        self.assertEqual(second.rows(), ROWS)
        self.assertEqual(second.step(), ROWS[0])
        self.assertEqual(second.rest(), len(ROWS) - 1)
        self.assertEqual((everything_of(self.one), everything_of(self.other)), before)


class InStep(unittest.TestCase):
    def assert_in_step(self, one, other, truth):
        self.assertIs(in_step(one, other), truth)
        self.assertIs(in_step(other, one), truth)

    def test_houses_without_files(self):
        self.assert_in_step(House(0), House(1), True)

    def test_a_file_more(self):
        one, other = House(0), House(1)
        which = one.make("a", "")
        self.assert_in_step(one, other, False)
        other.take(one.file(which))
        self.assert_in_step(one, other, True)
        self.assert_in_step(one, one, True)

    def test_gone_files_count(self):
        one, other = House(0), House(1)
        one.drop(one.make("a", ""))
        self.assert_in_step(one, other, False)
        other.take(one.file((0, 1)))
        self.assert_in_step(one, other, True)
        other.forget(())
        self.assert_in_step(one, other, False)

    def test_any_part_of_a_file_counts(self):
        file = ((0, 1), "a", ((0, 2), (1, 2)), (((0, 2), "b"),), (((1, 2), "x"),))
        for place, part in ((1, "b"), (2, ((0, 2), (1, 3))), (2, ((0, 3), (1, 2))), (3, ()), (3, (((0, 1), "b"),)),
                            (3, (((0, 2), "c"),)), (4, ()), (4, (((1, 1), "x"),)), (4, (((1, 2), "y"),))):
            one, other = House(0), House(1)
            one.take(file)
            other.take(file)
            self.assert_in_step(one, other, True)
            other = House(1)
            other.take(file[:place] + (part,) + file[place + 1:])
            self.assert_in_step(one, other, False)

    def test_the_order_in_which_files_came_does_not_count(self):
        one, other = House(0), House(1)
        files = [((0, count), "a", ((0, count),), (), (((0, count), ""),)) for count in (1, 2, 3, 10)]
        for file in files:
            one.take(file)
        for file in reversed(files):
            other.take(file)
        self.assert_in_step(one, other, True)

    def test_numbers_counts_and_what_was_told_do_not_count(self):
        one, other = House(3), House(4)
        which = one.make("a", "")
        other.take(one.file(which))
        one.told_by(4, other.heard())
        self.assertNotEqual(one.count(), other.count())
        self.assert_in_step(one, other, True)


class GoneThrough(unittest.TestCase):
    def assert_the_same(self, one, other):
        self.assertIs(in_step(one, other), True)
        for told in ("files", "ids", "gone", "texts", "quarrels", "shown", "heard"):
            self.assertEqual(everything_of(one)[told], everything_of(other)[told])
        self.assertEqual(Meeting(one, other).rows(), ())
        self.assertEqual(Meeting(other, one).rows(), ())

    def test_both_houses_are_the_same(self):
        apart = 0
        for seed in range(40):
            for pair in ((0, 1), (2, 0)):
                houses = drawn_houses(seed, 3, House)
                one, other = houses[pair[0]], houses[pair[1]]
                rows = rows_told(one, other)
                self.assertIs(in_step(one, other), rows == ())
                apart += rows != ()
                self.assertEqual(Meeting(one, other).rest(), len(rows))
                self.assert_the_same(one, other)
        self.assertGreater(apart, 40)

    def test_no_row_carries_what_the_taker_had(self):
        for seed in range(40):
            houses = drawn_houses(seed, 2, House)
            meeting = Meeting(*houses)
            for to, which in meeting.rows():
                before = houses[to].heard()
                self.assertEqual(meeting.step(), (to, which))
                self.assertNotEqual(houses[to].heard(), before)

    def test_stopped_anywhere_and_begun_anew_it_has_the_rows_that_were_left(self):
        for seed in range(12):
            many = len(Meeting(*drawn_houses(seed, 2, House)).rows())
            for steps in range(many + 1):
                one, other = drawn_houses(seed, 2, House)
                meeting = Meeting(one, other)
                done = [meeting.step() for _ in range(steps)]
                left = meeting.rows()
                self.assertEqual(len(left), many - steps)
                anew = Meeting(one, other)
                self.assertEqual(anew.rows(), left)
                self.assertEqual(set(done) & set(anew.rows()), set())
                self.assertEqual(anew.rest(), many - steps)
                self.assert_the_same(one, other)

    def test_begun_anew_after_each_step(self):
        for seed in range(12):
            one, other = drawn_houses(seed, 2, House)
            rows = Meeting(one, other).rows()
            for row in rows:
                self.assertEqual(Meeting(one, other).step(), row)
            self.assertIs(Meeting(one, other).step(), None)
            self.assert_the_same(one, other)


if __name__ == "__main__":
    unittest.main()
