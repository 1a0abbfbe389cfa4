"""Stories of acts, meetings that stop, letters, and houses woken from journals that broke off: 0.1, 0.2, 0.3."""

import itertools
import unittest
from random import Random

from helper import Story, StoryCase, everything_of
from twinshelves.houses import House
from twinshelves.journals import row_of, rows_in, woken
from twinshelves.letters import letter, take_letter
from twinshelves.meetings import Meeting, in_step
from twinshelves.parcels import opened, parcel


def whole_of(lengths, place):
    """How many rows of these lengths, one behind the other, are whole in what is left of them."""
    return sum(end <= place for end in itertools.accumulate(lengths))


class WholeStory(Story):
    """Each event is done in the houses and in the sets beside them; told is what it told, and what it should."""

    def __init__(self, seed, houses):
        super().__init__(seed, houses, House)
        self.journals = [[] for _ in range(houses)]
        # So many rows of each journal are not lost: others may have heard of their acts.
        self.sure = [0] * houses
        self.letters = []
        self.meetings = []
        self.happened = {}

    def two(self):
        return self.chance.sample(range(len(self.houses)), 2)

    def marks(self, number, which):
        return self.heard[number].get(which, frozenset())

    def note(self, number, which):
        house = self.houses[number]
        self.journals[number].append((row_of(house, which), which, self.marks(number, which), house.count()))

    def give(self, number):
        self.sure[number] = len(self.journals[number])

    def lacking(self, giver, heard):
        """The ids of the giver's files of which there is an act that one who heard of these has not."""
        return [which for which in sorted(self.heard[giver]) if not self.marks(giver, which) <= heard.get(which, set())]

    def do_act(self):
        number = self.chance.randrange(len(self.houses))
        told = self.act(number)
        self.note(number, self.acts[(number, self.houses[number].count())][0])
        return ((number,), *told)

    def begin_meeting(self):
        pair = self.two()
        one, other = pair
        rows = [(0, which) for which in self.lacking(other, self.heard[one])]
        rows += [(1, which) for which in self.lacking(one, self.heard[other])]
        rows = tuple(sorted(rows, key=lambda row: (row[1], row[0])))
        meeting = Meeting(self.houses[one], self.houses[other])
        self.meetings.append((meeting, pair, rows))
        return (pair, meeting.rows(), rows)

    def do_steps(self):
        if not self.meetings:
            return self.begin_meeting()
        meeting, pair, rows = self.meetings.pop(self.chance.randrange(len(self.meetings)))
        many = self.chance.randint(1, 4)
        told = [meeting.step() for _ in range(many)]
        for to, which in rows[:many]:
            self.hear(pair[to], which, self.marks(pair[1 - to], which))
            self.give(pair[1 - to])
            self.note(pair[to], which)
        # A meeting that is not put back has stopped for good.
        if self.chance.random() < 0.8:
            self.meetings.append((meeting, pair, rows[many:]))
        return (pair, (told, meeting.rows()), ((list(rows[:many]) + [None] * many)[:many], rows[many:]))

    def write_letter(self):
        sender, reader = self.two()
        heard = {} if self.chance.random() < 0.2 else self.heard[reader]
        ids = self.lacking(sender, heard)
        rows = [(row_of(self.houses[sender], which), which, self.marks(sender, which)) for which in ids]
        text = letter(self.houses[sender], self.houses[reader].heard() if heard else ())
        self.letters.append((text, rows))
        self.give(sender)
        return ((sender,), text, "".join(row[0] for row in rows))

    def read_letter(self):
        if not self.letters:
            return self.write_letter()
        number = self.chance.randrange(len(self.houses))
        late = self.chance.random() < 0.3
        text, rows = self.chance.choice(self.letters if late else self.letters[-3:])
        place = self.chance.choice((len(text), self.chance.randint(0, len(text))))
        whole = whole_of([len(row[0]) for row in rows], place)
        told = take_letter(self.houses[number], text[:place])
        changed = sum(self.hear(number, which, marks) for _, which, marks in rows[:whole])
        for _, which, _ in rows[:whole]:
            self.note(number, which)
        self.count("broken off", whole < len(rows))
        self.count("changed nothing", changed == 0 and whole > 0)
        return ((number,), told, changed)

    def wake(self):
        number = self.chance.randrange(len(self.houses))
        rows = self.journals[number]
        lengths = [len(row[0]) for row in rows]
        # The first row tells the number: a house that wakes without it has the number 0.
        least = sum(lengths[:max(1, self.sure[number])])
        place = self.chance.randint(min(least, sum(lengths)), sum(lengths))
        whole = whole_of(lengths, place)
        if whole == 0:
            return self.do_act()
        journal = "".join(row[0] for row in rows)[:place]
        self.houses[number] = woken(journal)
        self.meetings = [meeting for meeting in self.meetings if number not in meeting[1]]
        self.journals[number] = rows[:whole]
        count = max(row[3] for row in rows[:whole])
        self.acts = {mark: act for mark, act in self.acts.items() if mark[0] != number or mark[1] <= count}
        self.heard[number] = {}
        for _, which, marks, _ in rows[:whole]:
            self.hear(number, which, marks)
        self.count("lost", len(rows) - whole)
        return ((number,), rows_in(journal), tuple(row[0] for row in rows[:whole]))

    def count(self, name, many):
        self.happened[name] = self.happened.get(name, 0) + many

    def go_on(self):
        event = self.chance.choice((self.do_act,) * 5 + (self.begin_meeting,) + (self.do_steps,) * 4
                                   + (self.write_letter, self.read_letter, self.read_letter, self.wake))
        return event()

    def hear_all(self, pairs):
        for one, other in pairs:
            Meeting(self.houses[one], self.houses[other]).rest()
            for which in sorted(set(self.heard[one]) | set(self.heard[other])):
                both = self.marks(one, which) | self.marks(other, which)
                self.hear(one, which, both)
                self.hear(other, which, both)


class WholeStories(StoryCase):
    def go_on(self, story):
        numbers, told, expected = story.go_on()
        self.assertEqual(told, expected)
        for number in numbers:
            self.assert_as_the_acts_leave_it(story, number)

    def assert_in_step_where_the_same_was_heard(self, story):
        for one, other in itertools.combinations(range(len(story.houses)), 2):
            self.assertIs(in_step(story.houses[one], story.houses[other]), story.heard[one] == story.heard[other])

    def assert_all_have_all(self, story):
        heard = {which: frozenset(mark for mark in story.acts if story.acts[mark][0] == which)
                 for which in story.acts if story.acts[which][1] == "make"}
        self.assertEqual(story.heard, [heard] * len(story.houses))
        self.assert_all_the_same(story.houses)
        for number, house in enumerate(story.houses):
            self.assert_as_the_acts_leave_it(story, number)
            self.assertIs(in_step(house, story.houses[0]), True)
            self.assertEqual(Meeting(house, story.houses[0]).rows(), ())
            self.assertEqual(letter(house, story.houses[0].heard()), "")

    def test_at_each_time_each_house_has_what_the_acts_leave(self):
        happened = {}
        for houses in range(2, 7):
            for seed in range(8):
                story = WholeStory(seed, houses)
                for _ in range(150):
                    self.go_on(story)
                self.assert_in_step_where_the_same_was_heard(story)
                pairs = [(0, number) for number in range(1, houses)]
                story.hear_all(pairs + pairs)
                self.assert_all_have_all(story)
                for name, many in story.happened.items():
                    happened[name] = happened.get(name, 0) + many
        for name in ("broken off", "changed nothing", "lost"):
            self.assertGreater(happened[name], 50)

    def test_all_meet_in_several_orders_with_stops_between(self):
        orders = list(itertools.permutations(itertools.combinations(range(3), 2)))
        for seed in range(4):
            told = []
            for order in orders:
                story = WholeStory(seed, 3)
                for _ in range(60):
                    self.go_on(story)
                chance = Random(len(told))
                for one, other in order:
                    # This meeting stops, and what it carried is carried by none of those that follow.
                    meeting = Meeting(story.houses[one], story.houses[other])
                    rows = meeting.rows()
                    done = chance.randint(0, len(rows))
                    self.assertEqual(tuple(meeting.step() for _ in range(done)), rows[:done])
                    self.assertEqual(Meeting(story.houses[one], story.houses[other]).rows(), rows[done:])
                story.hear_all(order + order)
                self.assert_all_have_all(story)
                told.append(everything_of(story.houses[0])["files"])
            self.assertEqual(told, [told[0]] * len(orders))

    def test_four_houses_in_drawn_orders(self):
        for seed in range(3):
            told = []
            for order in range(8):
                story = WholeStory(seed, 4)
                for _ in range(80):
                    self.go_on(story)
                pairs = list(itertools.permutations(range(4), 2))
                Random(order).shuffle(pairs)
                story.hear_all(pairs + pairs)
                self.assert_all_have_all(story)
                told.append(everything_of(story.houses[order % 4])["files"])
            self.assertEqual(told, [told[0]] * 8)

    def test_letters_alone_lead_to_the_same(self):
        for seed in range(10):
            story = WholeStory(seed, 3)
            for _ in range(80):
                self.go_on(story)
            chance = Random(seed)
            # All that was on the way comes once more, in any order; then all write to all, twice.
            for text, _ in chance.sample(story.letters, len(story.letters)):
                take_letter(chance.choice(story.houses), text)
            for _ in range(2):
                for one, other in itertools.permutations(story.houses, 2):
                    take_letter(other, letter(one, other.heard()))
            story.hear_all([(0, 1), (0, 2), (0, 1)])
            self.assert_all_have_all(story)

    def test_a_house_that_lost_what_it_heard_hears_of_it_again(self):
        one, other = House(0), House(1)
        which = one.make("a", "one")
        journal = row_of(other, other.make("b", "two"))
        Meeting(one, other).rest()
        other = woken(journal + row_of(other, which)[:-1])
        self.assertEqual(other.heard(), (((1, 1), ((1, 1),)),))
        self.assertEqual(Meeting(one, other).rows(), ((1, which),))
        Meeting(one, other).rest()
        self.assertIs(in_step(one, other), True)
        self.assertEqual(other.make("c", ""), (1, 2))


class Quarrels(StoryCase):
    def setUp(self):
        """Three houses that have a file; house 0 and house 1 wrote and named it, and do not know of one another."""
        self.houses = [House(number) for number in range(3)]
        self.which = self.houses[0].make("ab", "old")
        self.meet((0, 1), (0, 2))
        self.houses[0].write(self.which, "one")
        self.houses[1].write(self.which, "other")
        self.houses[0].rename(self.which, "one")
        self.houses[1].rename(self.which, "other")

    def meet(self, *pairs):
        for one, other in pairs:
            Meeting(self.houses[one], self.houses[other]).rest()

    def assert_told(self, kinds, numbers=(0, 1, 2)):
        for number in numbers:
            self.assertEqual(self.houses[number].quarrels(), ((self.which, kinds),) if kinds else ())

    def test_kept_twice_and_told_in_all_houses_that_hear_of_it(self):
        self.assert_told(())
        self.meet((0, 2))
        self.assert_told(())
        self.meet((2, 1))
        self.assert_told(("name", "text"), (1, 2))
        self.assert_told((), (0,))
        self.meet((0, 2))
        self.assert_told(("name", "text"))
        for house in self.houses:
            self.assertEqual(house.file(self.which)[3], (((0, 3), "one"), ((1, 2), "other")))
            self.assertEqual(house.file(self.which)[4], (((0, 2), "one"), ((1, 1), "other")))
            self.assertEqual(house.shown(), (("one", self.which),))
            self.assertEqual(house.text_of(self.which), "other")

    def test_told_by_letters(self):
        text = letter(self.houses[0], ())
        take_letter(self.houses[2], text)
        self.assert_told((), (2,))
        self.assertEqual(take_letter(self.houses[2], letter(self.houses[1], self.houses[2].heard())), 1)
        self.assert_told(("name", "text"), (2,))
        self.assertEqual(take_letter(self.houses[2], text), 0)
        self.assert_told(("name", "text"), (2,))

    def test_a_writing_ends_the_quarrel_about_texts(self):
        self.meet((0, 1), (0, 2))
        self.houses[2].write(self.which, "both")
        self.assert_told(("name",), (2,))
        self.assert_told(("name", "text"), (0, 1))
        self.meet((2, 0), (0, 1))
        self.assert_told(("name",))
        self.assertEqual([house.text_of(self.which) for house in self.houses], ["both"] * 3)

    def test_a_naming_ends_the_quarrel_about_names(self):
        self.meet((0, 1), (0, 2))
        self.houses[1].rename(self.which, "both")
        self.meet((1, 0), (0, 2))
        self.assert_told(("text",))
        self.assertEqual([house.shown() for house in self.houses], [(("both", self.which),)] * 3)

    def test_a_dropping_ends_both(self):
        self.meet((0, 1), (0, 2))
        self.houses[0].drop(self.which)
        self.meet((0, 1), (1, 2))
        self.assert_told(())
        self.assertEqual([house.gone() for house in self.houses], [(self.which,)] * 3)

    def test_a_writing_that_knew_of_one_alone_takes_that_one_alone(self):
        self.meet((0, 2))
        self.houses[2].write(self.which, "third")
        self.meet((2, 1), (1, 0))
        self.assert_told(("name", "text"))
        self.assertEqual(self.houses[0].file(self.which)[4], (((1, 1), "other"), ((2, 1), "third")))

    def test_a_dropping_that_did_not_know_of_a_writing_leaves_it(self):
        self.houses[2].drop(self.which)
        self.meet((0, 2), (2, 1), (1, 0))
        self.assert_told(("name", "text"))
        self.assertEqual([house.gone() for house in self.houses], [()] * 3)

    def test_both_ended_it_without_knowing_of_one_another(self):
        self.meet((0, 1), (0, 2))
        self.houses[0].write(self.which, "end")
        self.houses[1].write(self.which, "End")
        self.meet((0, 1), (0, 2))
        self.assert_told(("name", "text"))
        self.assertEqual(self.houses[2].file(self.which)[4], (((0, 4), "end"), ((1, 3), "End")))

    def test_the_same_words_are_no_quarrel(self):
        self.meet((0, 1), (0, 2))
        for number in (0, 1):
            self.houses[number].write(self.which, "same")
            self.houses[number].rename(self.which, "same")
        self.meet((0, 1), (0, 2))
        self.assert_told(())
        self.assertEqual(len(self.houses[2].file(self.which)[4]), 2)

    def test_a_quarrel_goes_through_a_journal(self):
        self.meet((0, 1))
        again = woken(row_of(self.houses[1], self.which))
        self.assertEqual(again.quarrels(), ((self.which, ("name", "text")),))
        again.write(self.which, "both")
        Meeting(self.houses[0], again).rest()
        self.assert_told(("name",), (0,))


class ForgottenFiles(unittest.TestCase):
    def test_forgotten_files_come_again_but_as_gone_ones(self):
        for forgetting in itertools.product((False, True), repeat=3):
            houses = [House(number) for number in range(3)]
            which = houses[0].make("a", "x")
            for one, other in ((0, 1), (0, 2)):
                Meeting(houses[one], houses[other]).rest()
            houses[1].drop(which)
            for one, other in ((0, 1), (0, 2)):
                Meeting(houses[one], houses[other]).rest()
            for one, other in itertools.permutations(range(3), 2):
                houses[one].told_by(other, houses[other].heard())
            for number in range(3):
                if forgetting[number]:
                    self.assertEqual(houses[number].forget(tuple({0, 1, 2} - {number})), 1)
                    self.assertEqual(houses[number].heard(), ())
            for one, other in ((0, 1), (1, 2), (2, 0), (0, 1)):
                Meeting(houses[one], houses[other]).rest()
                take_letter(houses[one], letter(houses[other], ()))
                self.assertEqual([house.ids() for house in houses], [()] * 3)
            self.assertEqual([house.gone() for house in houses], [() if all(forgetting) else (which,)] * 3)


class NothingHandedInIsChanged(unittest.TestCase):
    def test_houses_are_changed_by_acts_and_meetings_alone(self):
        story = WholeStory(7, 3)
        for _ in range(120):
            story.go_on()
        one, other = story.houses[:2]
        before = (everything_of(one), everything_of(other))
        for _ in range(2):
            told = [in_step(one, other), Meeting(one, other).rows(), letter(one, other.heard()), letter(other, ())]
            told += [row_of(one, which) for which in one.ids()]
            told += [rows_in(letter(one, ())), everything_of(woken(letter(one, ())))]
            self.assertEqual((everything_of(one), everything_of(other)), before)
            self.assertEqual(told[:4], [in_step(one, other), Meeting(one, other).rows(), letter(one, other.heard()),
                                        letter(other, ())])

    def test_a_woken_house_shares_nothing(self):
        house = House(0)
        which = house.make("a", "x")
        again = woken(row_of(house, which))
        again.write(which, "y")
        self.assertEqual(house.text_of(which), "x")

    def test_texts_go_from_house_to_house_in_parcels(self):
        story = WholeStory(8, 2)
        for _ in range(150):
            story.go_on()
        one, other = story.houses
        for which in one.ids():
            old = other.text_of(which) if which in other.ids() else ""
            self.assertEqual(opened(parcel(one.text_of(which), old), old), one.text_of(which))


if __name__ == "__main__":
    unittest.main()
