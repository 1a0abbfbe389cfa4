import unittest

from helper import everything_of
from twinshelves.errors import NoFile
from twinshelves.houses import House

GONE = (3, 1)
KNOWN = ((1, 4), (3, 2))
GONE_FILE = (GONE, "g", KNOWN, (), ())
LIVING = (3, 5)
LIVING_FILE = (LIVING, "l", ((3, 5),), (), (((3, 5), "hi"),))
MISSING = object()


def house_with_stones():
    """House 0 with three gone files, the own one (0, 1) among them, and with two that are not."""
    house = House(0)
    house.drop(house.make("a", "hi"))
    house.make("b", "ho")
    house.take(GONE_FILE)
    house.take(((3, 10), "g", ((3, 12),), (), ()))
    house.take(LIVING_FILE)
    return house


def heard_with(house, which, known):
    """What the house heard, with another known of one file, or, if it is MISSING, without this file."""
    return tuple((there, known if there == which else own) for there, own in house.heard()
                 if there != which or known is not MISSING)


ALL_GONE = ((0, 1), (3, 1), (3, 10))
BUT_ONE = ((0, 1), (3, 10))


class CanForget(unittest.TestCase):
    def setUp(self):
        self.house = house_with_stones()
        self.heard = self.house.heard()

    def test_no_one_asked(self):
        self.assertEqual(self.house.can_forget(()), ALL_GONE)
        self.assertEqual(House(0).can_forget(()), ())

    def test_one_who_told_nothing_ever(self):
        self.assertEqual(self.house.can_forget((1,)), ())
        self.house.told_by(2, self.heard)
        self.assertEqual(self.house.can_forget((1,)), ())

    def test_told_by_tells_none_and_changes_no_file(self):
        before = everything_of(self.house)
        self.assertIs(self.house.told_by(1, self.heard), None)
        self.assertEqual(everything_of(self.house), before)

    def test_one_who_told_the_very_same(self):
        self.house.told_by(1, self.heard)
        self.assertEqual(self.house.can_forget((1,)), ALL_GONE)
        self.assertEqual(self.house.can_forget((1,)), ALL_GONE)

    def test_one_who_told_something_else_of_one_file(self):
        for known in (MISSING, ((1, 3), (3, 2)), ((1, 4), (3, 1)), ((1, 5), (3, 2)), ((1, 4), (3, 3)), ((1, 4),),
                      ((3, 2),), ((1, 4), (3, 2), (4, 1)), ((0, 1), (1, 4), (3, 2)), ()):
            self.house.told_by(1, heard_with(self.house, GONE, known))
            self.assertEqual(self.house.can_forget((1,)), BUT_ONE, known)

    def test_one_who_told_of_no_file(self):
        self.house.told_by(1, ())
        self.assertEqual(self.house.can_forget((1,)), ())
        self.assertEqual(self.house.can_forget(()), ALL_GONE)

    def test_the_last_one_told_counts(self):
        for ahead in ((), self.heard, heard_with(self.house, GONE, ((1, 4),))):
            for known, told in ((KNOWN, ALL_GONE), (((1, 4),), BUT_ONE), (MISSING, BUT_ONE)):
                self.house.told_by(1, ahead)
                self.house.told_by(1, heard_with(self.house, GONE, known))
                self.assertEqual(self.house.can_forget((1,)), told)

    def test_two_are_asked(self):
        self.house.told_by(1, self.heard)
        self.house.told_by(2, heard_with(self.house, GONE, MISSING))
        for numbers, told in (((1,), ALL_GONE), ((2,), BUT_ONE), ((1, 2), BUT_ONE), ((2, 1), BUT_ONE),
                              ((1, 3), ()), ((1, 1), ALL_GONE), ((1, 2, 3), ())):
            self.assertEqual(self.house.can_forget(numbers), told, numbers)
        self.house.told_by(1, heard_with(self.house, (0, 1), ((0, 1),)))
        self.assertEqual(self.house.can_forget((1, 2)), ((3, 10),))
        self.house.told_by(1, self.heard)
        self.house.told_by(2, self.heard)
        self.assertEqual(self.house.can_forget((1, 2)), ALL_GONE)

    def test_what_the_house_hears_later_counts(self):
        self.house.told_by(1, self.heard)
        self.house.take((GONE, "g", ((1, 5), (3, 2)), (), ()))
        self.assertEqual(self.house.can_forget((1,)), BUT_ONE)
        self.house.told_by(1, self.house.heard())
        self.assertEqual(self.house.can_forget((1,)), ALL_GONE)
        self.house.take((GONE, "g", ((1, 6), (3, 2)), (), (((1, 6), "back"),)))
        self.assertEqual(self.house.can_forget(()), BUT_ONE)

    def test_what_is_not_gone_is_not_forgotten(self):
        house = House(0)
        house.make("a", "")
        house.take(LIVING_FILE)
        house.told_by(1, house.heard())
        self.assertEqual(house.can_forget((1,)), ())
        self.assertEqual(house.can_forget(()), ())
        self.assertEqual(house.forget((1,)), 0)
        self.assertEqual(house.forget(()), 0)
        self.assertEqual(house.ids(), ((0, 1), LIVING))

    def test_ids_rise_by_number_and_not_by_figures(self):
        house = House(0)
        made = [house.make("a", "") for _ in range(12)]
        for which in reversed(made):
            house.drop(which)
        self.assertEqual(house.can_forget(()), tuple((0, count) for count in range(1, 13)))

    def test_asking_changes_nothing(self):
        before = everything_of(self.house)
        self.house.can_forget(())
        self.assertEqual(everything_of(self.house), before)


class Forget(unittest.TestCase):
    def test_those_that_go_stand_in_no_answer(self):
        house = house_with_stones()
        house.told_by(1, heard_with(house, GONE, MISSING))
        before = everything_of(house)
        self.assertEqual(house.forget((1,)), 2)
        for which in BUT_ONE:
            for act, things in ((house.file, ()), (house.text_of, ()), (house.drop, ()), (house.write, ("x",)),
                                (house.rename, ("x",))):
                with self.assertRaises(NoFile):
                    act(which, *things)
        self.assertEqual(house.gone(), (GONE,))
        self.assertEqual(house.heard(), (((0, 3), ((0, 3),)), (GONE, KNOWN), (LIVING, ((3, 5),))))
        self.assertEqual(house.news_for(()), (house.file((0, 3)), GONE_FILE, LIVING_FILE))
        self.assertEqual(house.can_forget(()), (GONE,))
        self.assertEqual(house.can_forget((1,)), ())
        self.assertEqual(house.ids(), ((0, 3), LIVING))
        self.assertEqual(house.shown(), (("b", (0, 3)), ("l", LIVING)))
        self.assertEqual(house.quarrels(), ())
        for name in ("number", "count", "ids", "shown"):
            self.assertEqual(everything_of(house)[name], before[name])

    def test_again_none_go(self):
        house = house_with_stones()
        house.told_by(1, house.heard())
        self.assertEqual(house.forget((1,)), 3)
        self.assertEqual(house.forget((1,)), 0)
        self.assertEqual(house.forget(()), 0)

    def test_no_one_asked(self):
        house = house_with_stones()
        self.assertEqual(house.forget(()), 3)
        self.assertEqual(house.gone(), ())
        self.assertEqual(House(0).forget(()), 0)

    def test_one_who_told_nothing(self):
        house = house_with_stones()
        before = everything_of(house)
        self.assertEqual(house.forget((1,)), 0)
        self.assertEqual(house.forget((5, 4)), 0)
        self.assertEqual(everything_of(house), before)

    def test_marks_go_on(self):
        house = House(0)
        house.drop(house.make("a", ""))
        self.assertEqual(house.forget(()), 1)
        self.assertEqual(house.count(), 2)
        self.assertEqual(house.make("a", ""), (0, 3))


class LeadOn(unittest.TestCase):
    def test_a_gone_file_is_not_taken_newly(self):
        house = House(0)
        before = everything_of(house)
        self.assertIs(house.lead_on(GONE_FILE), False)
        self.assertEqual(everything_of(house), before)
        with self.assertRaises(NoFile):
            house.file(GONE)

    def test_take_takes_it(self):
        house = House(0)
        self.assertIs(house.take(GONE_FILE), True)
        self.assertEqual(house.gone(), (GONE,))
        self.assertIs(house.lead_on(GONE_FILE), False)
        self.assertEqual(house.file(GONE), GONE_FILE)

    def test_a_gone_file_with_names_is_gone_all_the_same(self):
        house = House(0)
        self.assertIs(house.lead_on((GONE, "g", KNOWN, (((1, 4), "n"),), ())), False)
        self.assertEqual(house.heard(), ())

    def test_a_file_that_is_not_gone_is_taken_newly(self):
        house = House(0)
        self.assertIs(house.lead_on(LIVING_FILE), True)
        self.assertEqual(house.file(LIVING), LIVING_FILE)
        self.assertIs(house.lead_on(LIVING_FILE), False)
        self.assertEqual(house.file(LIVING), LIVING_FILE)

    def test_what_the_house_has_is_led_on(self):
        house = House(0)
        house.take((GONE, "g", ((3, 1),), (), (((3, 1), "hi"),)))
        self.assertIs(house.lead_on(GONE_FILE), True)
        self.assertEqual(house.file(GONE), GONE_FILE)
        self.assertIs(house.lead_on(GONE_FILE), False)
        later = (GONE, "g", ((1, 4), (2, 2), (3, 2)), (), ())
        self.assertIs(house.lead_on(later), True)
        self.assertEqual(house.file(GONE), later)
        self.assertEqual(house.count(), 0)

    def test_it_puts_together(self):
        house = House(0)
        house.take(((3, 1), "g", ((1, 2), (3, 1)), (), (((1, 2), "one"),)))
        self.assertIs(house.lead_on(((3, 1), "g", ((2, 2), (3, 1)), (), (((2, 2), "other"),))), True)
        self.assertEqual(house.file((3, 1))[4], (((1, 2), "one"), ((2, 2), "other")))

    def test_after_forgetting(self):
        house = house_with_stones()
        house.forget(())
        self.assertIs(house.lead_on(GONE_FILE), False)
        self.assertEqual(house.gone(), ())
        self.assertIs(house.take(GONE_FILE), True)
        self.assertEqual(house.gone(), (GONE,))
        self.assertEqual(house.file(GONE), GONE_FILE)


if __name__ == "__main__":
    unittest.main()
