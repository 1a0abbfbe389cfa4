import itertools
import unittest

from helper import STRANGE_THINGS, everything_of, files_of_chance
from twinshelves.errors import NoFile, NoName, NoWords, ShelfError
from twinshelves.files import is_file, put_together
from twinshelves.houses import House

NO_NAMES = ("", "abcdefg", "A", "a1", "a b", "a~2", "ab\n", "\xe9") + STRANGE_THINGS
NO_TEXTS = ("x" * 61, "\n", "hi\t", "\x7f", "\xe9") + STRANGE_THINGS
NEVER_HAD = ((0, 4), (0, 99), (1, 1), (1, 2), (5, 10 ** 999))


def gone_file(which=(3, 1)):
    return (which, "g", ((3, 2),), (), ())


class Acts(unittest.TestCase):
    def test_a_new_house(self):
        for number in range(6):
            house = House(number)
            self.assertEqual(house.number(), number)
            self.assertEqual(house.count(), 0)
            for told in (house.ids(), house.gone(), house.quarrels(), house.shown(), house.heard(),
                         house.news_for(()), house.can_forget(())):
                self.assertEqual(told, ())

    def test_make(self):
        house = House(2)
        self.assertEqual(house.make("ab", "hi"), (2, 1))
        self.assertEqual(house.file((2, 1)), ((2, 1), "ab", ((2, 1),), (), (((2, 1), "hi"),)))
        self.assertEqual(house.make("ab", ""), (2, 2))
        self.assertEqual(house.file((2, 2)), ((2, 2), "ab", ((2, 2),), (), (((2, 2), ""),)))
        self.assertEqual(house.count(), 2)
        self.assertEqual(house.number(), 2)

    def test_the_edges_of_names_and_texts(self):
        house = House(0)
        for name, text in (("a", ""), ("abcdef", "x" * 60), ("z", " "), ("zzzzzz", "~")):
            which = house.make(name, text)
            self.assertEqual(house.file(which)[1], name)
            self.assertEqual(house.text_of(which), text)
            house.rename(which, name)
            house.write(which, text)
            self.assertEqual(house.file(which)[3][0][1], name)
            self.assertEqual(house.file(which)[4][0][1], text)

    def test_write_rename_and_drop_tell_none(self):
        house = House(1)
        which = house.make("a", "hi")
        self.assertIs(house.write(which, "ho"), None)
        self.assertIs(house.rename(which, "b"), None)
        self.assertIs(house.drop(which), None)

    def test_acts_one_by_one_beyond_nine(self):
        house = House(3)
        one, other = house.make("a", "t"), house.make("b", "u")
        house.rename(one, "c")
        self.assertEqual(house.file(one), ((3, 1), "a", ((3, 3),), (((3, 3), "c"),), (((3, 1), "t"),)))
        house.write(one, "new")
        self.assertEqual(house.file(one), ((3, 1), "a", ((3, 4),), (((3, 3), "c"),), (((3, 4), "new"),)))
        house.write(one, "new")
        self.assertEqual(house.file(one), ((3, 1), "a", ((3, 5),), (((3, 3), "c"),), (((3, 5), "new"),)))
        house.rename(one, "a")
        self.assertEqual(house.file(one), ((3, 1), "a", ((3, 6),), (((3, 6), "a"),), (((3, 5), "new"),)))
        self.assertEqual(house.file(other), ((3, 2), "b", ((3, 2),), (), (((3, 2), "u"),)))
        house.drop(one)
        self.assertEqual(house.file(one), ((3, 1), "a", ((3, 7),), (), ()))
        house.write(other, "8")
        house.write(other, "9")
        house.write(other, "10")
        self.assertEqual(house.file(other), ((3, 2), "b", ((3, 10),), (), (((3, 10), "10"),)))
        self.assertEqual(house.make("d", "v"), (3, 11))
        house.rename(other, "e")
        self.assertEqual(house.file(other), ((3, 2), "b", ((3, 12),), (((3, 12), "e"),), (((3, 10), "10"),)))
        self.assertEqual(house.count(), 12)
        self.assertEqual(house.ids(), ((3, 2), (3, 11)))
        self.assertEqual(house.gone(), ((3, 1),))

    def test_ids_rise_by_number_and_not_by_figures(self):
        house = House(0)
        made = [house.make("a", str(time)) for time in range(25)]
        self.assertEqual(house.ids(), tuple((0, count) for count in range(1, 26)))
        for which in reversed(made[::2]):
            house.drop(which)
        self.assertEqual(house.ids(), tuple((0, count) for count in range(2, 26, 2)))
        self.assertEqual(house.gone(), tuple((0, count) for count in range(1, 26, 2)))
        self.assertEqual(house.count(), 38)

    def test_an_act_on_a_taken_file(self):
        taken = ((2, 5), "a", ((2, 9), (4, 3)), (((2, 6), "b"), ((4, 1), "c")), (((2, 9), "x"), ((4, 3), "y")))
        for number, known in ((0, ((0, 1), (2, 9), (4, 3))), (3, ((2, 9), (3, 1), (4, 3))),
                              (5, ((2, 9), (4, 3), (5, 1)))):
            mark = (number, 1)
            house = House(number)
            house.take(taken)
            house.write((2, 5), "new")
            self.assertEqual(house.file((2, 5)), ((2, 5), "a", known, taken[3], ((mark, "new"),)))
            house = House(number)
            house.take(taken)
            house.rename((2, 5), "new")
            self.assertEqual(house.file((2, 5)), ((2, 5), "a", known, ((mark, "new"),), taken[4]))
            house = House(number)
            house.take(taken)
            house.drop((2, 5))
            self.assertEqual(house.file((2, 5)), ((2, 5), "a", known, (), ()))

    def test_a_later_act_takes_the_place_of_the_earlier_one_in_known(self):
        house = House(2)
        which = house.make("a", "")
        house.take((which, "a", ((2, 1), (4, 3)), (), (((4, 3), "y"),)))
        house.make("b", "")
        house.write(which, "new")
        self.assertEqual(house.file(which), (which, "a", ((2, 3), (4, 3)), (), (((2, 3), "new"),)))

    def test_an_act_on_a_file_that_knows_of_later_acts_of_this_house_leaves_a_file(self):
        house = House(2)
        house.take(((2, 5), "a", ((2, 9),), (((2, 6), "b"),), (((2, 9), "x"),)))
        house.write((2, 5), "new")
        self.assertEqual(house.file((2, 5)), ((2, 5), "a", ((2, 9),), (((2, 6), "b"),), (((2, 1), "new"),)))
        self.assertIs(is_file(house.file((2, 5))), True)

    def test_houses_do_not_share_what_they_have(self):
        one, other = House(0), House(0)
        one.make("a", "")
        self.assertEqual(other.ids(), ())
        self.assertEqual(other.count(), 0)

    def test_a_house_number_beyond_five_is_not_refused(self):
        house = House(7)
        which = house.make("a", "hi")
        house.write(which, "ho")
        self.assertEqual(house.file((7, 1)), ((7, 1), "a", ((7, 2),), (), (((7, 2), "ho"),)))


class Refusals(unittest.TestCase):
    def setUp(self):
        """A house with (0, 1), with (0, 2), which is gone, and with a taken file, which is gone."""
        self.house = House(0)
        self.house.make("a", "hi")
        self.house.drop(self.house.make("b", "ho"))
        self.house.take(gone_file())

    def assert_refused(self, refusal, act, *things):
        before = everything_of(self.house)
        with self.assertRaises(ShelfError, msg=repr(things)) as caught:
            act(*things)
        self.assertIs(caught.exception.__class__, refusal, things)
        self.assertEqual(everything_of(self.house), before)
        self.assertEqual(self.house.count(), 3)

    def test_files_that_the_house_never_had(self):
        house = self.house
        for which in NEVER_HAD:
            self.assert_refused(NoFile, house.write, which, "text")
            self.assert_refused(NoFile, house.rename, which, "name")
            self.assert_refused(NoFile, house.drop, which)
            self.assert_refused(NoFile, house.file, which)
            self.assert_refused(NoFile, house.text_of, which)

    def test_files_that_are_gone(self):
        house = self.house
        for which in ((0, 2), (3, 1)):
            self.assert_refused(NoFile, house.write, which, "text")
            self.assert_refused(NoFile, house.rename, which, "name")
            self.assert_refused(NoFile, house.drop, which)
            self.assert_refused(NoFile, house.text_of, which)
        self.assertEqual(house.file((0, 2)), ((0, 2), "b", ((0, 3),), (), ()))
        self.assertEqual(house.file((3, 1)), gone_file())

    def test_what_is_no_name(self):
        for name in NO_NAMES:
            self.assert_refused(NoName, self.house.make, name, "text")
            self.assert_refused(NoName, self.house.rename, (0, 1), name)

    def test_what_is_no_text(self):
        for text in NO_TEXTS:
            self.assert_refused(NoWords, self.house.make, "name", text)
            self.assert_refused(NoWords, self.house.write, (0, 1), text)

    def test_the_order_of_refusals(self):
        for name, text in itertools.product(NO_NAMES, NO_TEXTS):
            self.assert_refused(NoName, self.house.make, name, text)
        for which in NEVER_HAD + ((0, 2), (3, 1)):
            for name in NO_NAMES:
                self.assert_refused(NoFile, self.house.rename, which, name)
            for text in NO_TEXTS:
                self.assert_refused(NoFile, self.house.write, which, text)

    def test_a_refused_act_takes_no_mark(self):
        house = self.house
        self.assert_refused(NoWords, house.make, "a", None)
        self.assert_refused(NoName, house.make, "A", "text")
        self.assert_refused(NoFile, house.drop, (0, 2))
        self.assertEqual(house.make("c", "text"), (0, 4))
        with self.assertRaises(NoWords):
            house.write((0, 4), 7)
        house.write((0, 4), "seven")
        self.assertEqual(house.file((0, 4)), ((0, 4), "c", ((0, 5),), (), (((0, 5), "seven"),)))

    def test_a_house_without_files(self):
        self.house = House(0)
        for act, things in ((self.house.write, ("text",)), (self.house.rename, ("name",)), (self.house.drop, ()),
                            (self.house.file, ()), (self.house.text_of, ())):
            with self.assertRaises(NoFile):
                act((0, 1), *things)
        self.assertEqual(self.house.count(), 0)


class Asked(unittest.TestCase):
    def test_text_of_the_greatest_mark(self):
        house = House(0)
        texts = (((0, 1), "z"), ((0, 9), "y"), ((0, 10), "x"), ((1, 2), "b"), ((1, 11), "a"))
        for many in range(1, 6):
            which = (0, many)
            house.take((which, "a", ((0, 10), (1, 11)), (), texts[:many]))
            self.assertEqual(house.text_of(which), texts[many - 1][1])

    def test_quarrels(self):
        house = House(0)
        known = ((0, 20), (1, 20))
        names = (((0, 20), "b"), ((1, 1), "c"))
        texts = (((0, 20), "hi"), ((1, 1), "ho"))
        for which, own_names, own_texts in (
            ((1, 3), names, texts), ((0, 10), names, texts[:1]), ((0, 9), names[:1], texts), ((0, 1), names, ()),
            ((0, 2), (), texts[:1]), ((1, 2), names[1:], texts[1:]), ((1, 1), (), texts),
            ((1, 4), (((0, 20), "b"), ((1, 1), "b")), (((0, 20), "hi"), ((1, 1), "hi"))),
        ):
            house.take((which, "a", known, own_names, own_texts))
        self.assertEqual(house.quarrels(), (
            ((0, 9), ("text",)), ((0, 10), ("name",)), ((1, 1), ("text",)), ((1, 3), ("name", "text"))))

    def test_a_quarrel_lasts_until_somebody_writes_anew(self):
        one, other = House(0), House(1)
        which = one.make("a", "old")
        other.take(one.file(which))
        one.write(which, "one")
        other.write(which, "other")
        other.rename(which, "b")
        one.take(other.file(which))
        self.assertEqual(one.quarrels(), ((which, ("text",)),))
        one.rename(which, "c")
        self.assertEqual(one.quarrels(), ((which, ("text",)),))
        one.write(which, "both")
        self.assertEqual(one.quarrels(), ())
        other.rename(which, "d")
        one.take(other.file(which))
        self.assertEqual(one.quarrels(), ((which, ("name",)),))
        one.drop(which)
        self.assertEqual(one.quarrels(), ())

    def test_asked_again_the_same_is_told(self):
        house = House(0)
        for file in files_of_chance(21, 20):
            house.take(file)
            self.assertEqual(everything_of(house), everything_of(house))


class Shown(unittest.TestCase):
    def test_several_files_of_one_name(self):
        house = House(0)
        for which in ((2, 1), (0, 10), (1, 7), (0, 9)):
            house.take((which, "ab", ((0, 10), (1, 7), (2, 1)), (), (((0, 1), ""),)))
        self.assertEqual(house.shown(), (("ab", (0, 9)), ("ab~2", (0, 10)), ("ab~3", (1, 7)), ("ab~4", (2, 1))))

    def test_names_rise_and_gone_files_are_not_shown(self):
        house = House(0)
        made = [house.make(name, "") for name in ("c", "a", "b", "a", "c", "a", "ab")]
        self.assertEqual(house.shown(), (("a", made[1]), ("ab", made[6]), ("a~2", made[3]), ("a~3", made[5]),
                                         ("b", made[2]), ("c", made[0]), ("c~2", made[4])))
        house.drop(made[1])
        self.assertEqual(house.shown(), (("a", made[3]), ("ab", made[6]), ("a~2", made[5]),
                                         ("b", made[2]), ("c", made[0]), ("c~2", made[4])))

    def test_the_name_is_that_of_name_of(self):
        house = House(0)
        first, second, third = house.make("a", ""), house.make("a", ""), house.make("b", "")
        house.rename(first, "b")
        house.take((third, "b", ((0, 3), (1, 2)), (((1, 1), "c"), ((1, 2), "a")), (((0, 3), ""),)))
        self.assertEqual(house.shown(), (("a", second), ("a~2", third), ("b", first)))

    def test_more_than_nine_of_one_name(self):
        house = House(5)
        for _ in range(12):
            house.make("x", "")
        shown = house.shown()
        self.assertEqual(shown, tuple(sorted(shown)))
        self.assertEqual([name for name, _ in shown],
                         ["x", "x~10", "x~11", "x~12"] + [f"x~{place}" for place in range(2, 10)])
        self.assertEqual(dict(shown), {"x" if count == 1 else f"x~{count}": (5, count) for count in range(1, 13)})

    def test_the_same_in_houses_that_have_the_same_files(self):
        files = [((house, count), "ab"[count % 2], ((house, count),), (), (((house, count), ""),))
                 for house in range(3) for count in (1, 2, 10)]
        told = set()
        for order in (files, files[::-1], files[4:] + files[:4], files[::2] + files[1::2]):
            house = House(len(told))
            for file in order:
                house.take(file)
            told.add(house.shown())
            self.assertEqual(len(set(name for name, _ in house.shown())), len(files))
        self.assertEqual(len(told), 1)


class Taking(unittest.TestCase):
    def test_a_new_file(self):
        for file in (((1, 3), "a", ((1, 3),), (), (((1, 3), "hi"),)), gone_file()):
            house = House(0)
            self.assertIs(house.take(file), True)
            self.assertEqual(house.file(file[0]), file)
            self.assertIs(house.take(file), False)
            self.assertEqual(house.file(file[0]), file)
            self.assertEqual(house.count(), 0)

    def test_a_file_with_news_the_same_and_an_old_one(self):
        one, other = House(0), House(1)
        which = one.make("a", "old")
        first = one.file(which)
        self.assertIs(other.take(first), True)
        one.write(which, "new")
        second = one.file(which)
        self.assertIs(other.take(second), True)
        self.assertEqual(other.file(which), second)
        self.assertIs(other.take(first), False)
        self.assertIs(other.take(second), False)
        self.assertEqual(other.file(which), second)
        self.assertEqual(other.count(), 0)

    def test_news_on_both_sides_are_put_together(self):
        files = files_of_chance(22, 30)
        for one, other in itertools.product(files, repeat=2):
            house = House(3)
            house.take(one)
            together = put_together(one, other)
            self.assertIs(house.take(other), together != one)
            self.assertEqual(house.file((0, 1)), together)
            self.assertIs(house.take(other), False)
            self.assertIs(house.take(one), False)

    def test_known_alone_is_news_too(self):
        house = House(0)
        house.take(gone_file())
        self.assertIs(house.take(((3, 1), "g", ((2, 1), (3, 2)), (), ())), True)
        self.assertEqual(house.file((3, 1)), ((3, 1), "g", ((2, 1), (3, 2)), (), ()))

    def test_the_other_files_stay(self):
        house = House(0)
        which = house.make("a", "hi")
        before = house.file(which)
        house.take(gone_file())
        self.assertEqual(house.file(which), before)
        self.assertEqual((house.ids(), house.gone()), ((which,), ((3, 1),)))

    def test_a_dropped_file_comes_back_where_somebody_wrote_without_knowing(self):
        one, other = House(0), House(1)
        which = one.make("a", "old")
        other.take(one.file(which))
        one.drop(which)
        other.write(which, "new")
        self.assertIs(one.take(other.file(which)), True)
        self.assertEqual((one.ids(), one.gone(), one.text_of(which)), ((which,), (), "new"))
        one.write(which, "newer")
        self.assertEqual(one.file(which)[2], ((0, 3), (1, 1)))


class Heard(unittest.TestCase):
    def setUp(self):
        self.house = House(1)
        self.one = self.house.make("a", "hi")
        self.other = self.house.make("b", "ho")
        self.house.drop(self.other)
        self.house.take(((0, 10), "c", ((0, 10), (1, 1)), (), (((0, 10), ""),)))
        self.house.take(((0, 9), "c", ((0, 12), (2, 3)), (), ()))

    def test_heard_rises_and_tells_of_gone_files_too(self):
        self.assertEqual(self.house.heard(), (
            ((0, 9), ((0, 12), (2, 3))), ((0, 10), ((0, 10), (1, 1))), ((1, 1), ((1, 1),)), ((1, 2), ((1, 3),))))

    def all_files(self):
        return tuple(self.house.file(which) for which, _ in self.house.heard())

    def test_news_for_one_who_heard_the_same(self):
        self.assertEqual(self.house.news_for(self.house.heard()), ())

    def test_news_for_one_who_heard_nothing(self):
        self.assertEqual(self.house.news_for(()), self.all_files())
        self.assertEqual(self.all_files(), tuple(sorted(self.all_files())))

    def test_news_for_one_who_heard_all_but_one_file(self):
        heard = self.house.heard()
        for place in range(4):
            self.assertEqual(self.house.news_for(heard[:place] + heard[place + 1:]), (self.all_files()[place],))
            others = self.all_files()[:place] + self.all_files()[place + 1:]
            self.assertEqual(self.house.news_for((heard[place],)), others)

    def test_news_for_one_who_heard_one_count_less(self):
        heard = self.house.heard()
        for place, known in ((0, ((0, 11), (2, 3))), (0, ((0, 12), (2, 2))), (0, ((0, 12),)), (0, ((2, 3),)),
                             (1, ((0, 9), (1, 1))), (1, ((0, 10),)), (3, ((1, 2),)), (3, ())):
            told = heard[:place] + ((heard[place][0], known),) + heard[place + 1:]
            self.assertEqual(self.house.news_for(told), (self.all_files()[place],))

    def test_news_for_one_who_heard_more(self):
        heard = self.house.heard()
        more = tuple((which, tuple((house, count + 1) for house, count in known) + ((5, 1),))
                     for which, known in heard) + (((4, 4), ((4, 4),)),)
        self.assertEqual(self.house.news_for(more), ())

    def test_news_for_one_who_heard_more_of_one_house_and_less_of_another(self):
        heard = self.house.heard()
        told = (((0, 9), ((0, 99), (2, 2))),) + heard[1:]
        self.assertEqual(self.house.news_for(told), (self.all_files()[0],))

    def test_who_takes_the_news_lacks_nothing(self):
        other = House(2)
        other.make("z", "")
        for file in self.house.news_for(other.heard()):
            self.assertIs(other.take(file), True)
        self.assertEqual(self.house.news_for(other.heard()), ())
        self.assertEqual(other.news_for(self.house.heard()), (other.file((2, 1)),))

    def test_asking_changes_nothing(self):
        before = everything_of(self.house)
        self.house.news_for(())
        self.house.news_for(self.house.heard())
        self.assertEqual(everything_of(self.house), before)


if __name__ == "__main__":
    unittest.main()
