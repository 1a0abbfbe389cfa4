"""Several houses that act, and take one another's files in drawn orders: what of 0.2 speaks of houses."""

import unittest
from random import Random

from helper import Story, StoryCase
from twinshelves.files import is_file
from twinshelves.houses import House
from twinshelves.meetings import Meeting
from twinshelves.reading import read
from twinshelves.writing import written


class Stories(StoryCase):
    def assert_files_and_writings_tell_one_another(self, story, number):
        for file, _ in story.files_of(number):
            self.assertIs(is_file(file), True)
            self.assertEqual(read(written(file)), file)

    def go_on(self, story, on_the_way):
        """One act, or one file taken: of a house as it is now, or one that was on the way for long."""
        number = story.chance.randrange(len(story.houses))
        if story.chance.random() < 0.5 or not on_the_way:
            told, expected = story.act(number)
            self.assertEqual(told, expected)
            on_the_way.extend(story.files_of(number))
        else:
            late = story.chance.random() < 0.4
            brought = story.chance.choice(on_the_way if late else on_the_way[-20:])
            told, expected = story.take(number, brought)
            self.assertIs(told, expected)
        return number

    def test_at_each_time_each_house_has_what_the_acts_leave(self):
        for houses in range(1, 7):
            for seed in range(8):
                story = Story(seed, houses, House)
                on_the_way = []
                for _ in range(120):
                    number = self.go_on(story, on_the_way)
                    self.assert_as_the_acts_leave_it(story, number)
                self.assert_files_and_writings_tell_one_another(story, number)

    def test_the_stories_have_quarrels_gone_files_and_counts_of_two_figures(self):
        story = Story(0, 3, House)
        on_the_way = []
        kinds, gone = set(), 0
        for _ in range(600):
            number = self.go_on(story, on_the_way)
            kinds.update(pair[1] for pair in story.houses[number].quarrels())
            gone += len(story.houses[number].gone())
        self.assertEqual(kinds, {("name",), ("text",), ("name", "text")})
        self.assertGreater(gone, 100)
        self.assertGreater(min(house.count() for house in story.houses), 10)

    def test_houses_that_heard_of_the_same_acts_have_the_same_files(self):
        for seed in range(20):
            story = Story(seed, 4, House)
            on_the_way = []
            for _ in range(80):
                self.go_on(story, on_the_way)
            for number in range(4):
                brought = [carried for other in range(4) for carried in story.files_of(other)]
                Random(number).shuffle(brought)
                for carried in brought:
                    story.take(number, carried)
            self.assert_all_the_same(story.houses)
            for number in range(4):
                self.assert_as_the_acts_leave_it(story, number)


class Forgotten(unittest.TestCase):
    def meet(self, story, one, other):
        """Both take what they lack: in a meeting that may stop, or by take and lead_on, as it is drawn."""
        houses = (story.houses[one], story.houses[other])
        meeting = Meeting(*houses)
        if story.chance.random() < 0.4:
            for _ in range(story.chance.randint(0, len(meeting.rows()))):
                meeting.step()
        for here, there in (houses, houses[::-1]):
            there.told_by(here.number(), here.heard())
            for file in there.news_for(here.heard()) if story.chance.random() < 0.8 else ():
                story.chance.choice((here.take, here.lead_on))(file)

    def test_a_forgotten_file_that_all_know_to_be_gone_does_not_stand_again(self):
        forgotten_in_all = 0
        for seed in range(30):
            story = Story(seed, 3, House)
            over = set()
            for time in range(150):
                number = story.chance.randrange(3)
                if time < 100:
                    story.act(number)
                self.meet(story, number, (number + story.chance.choice((1, 2))) % 3)
                self.settle(story, number, over)
                for house in story.houses:
                    self.assertEqual(over & set(house.ids()), set())
            forgotten_in_all += len(over)
        self.assertGreater(forgotten_in_all, 100)

    def settle(self, story, number, over):
        """The house forgets; over are the ids that went when no house had them but as gone ones."""
        house = story.houses[number]
        others = tuple(there for there in range(3) if there != number)
        gone = set(house.can_forget(others))
        standing = {which for there in story.houses for which in there.ids()}
        self.assertEqual(house.forget(others), len(gone))
        self.assertEqual(gone & standing, set())
        self.assertEqual(gone & {which for which, _ in house.heard()}, set())
        over.update(gone)


if __name__ == "__main__":
    unittest.main()
