import itertools
import unittest
from random import Random

from helper import STRANGE_THINGS, file_of_chance, files_of_chance, in_list, in_tuple, nested, same_words
from twinshelves.files import has_heard, is_file, is_within, name_of, put_together, quarrels_of

WHOLE = (
    (2, 3), "first", ((0, 3), (2, 5), (4, 1)),
    (((0, 2), "b"), ((0, 3), "ab"), ((2, 4), "b")),
    (((0, 1), ""), ((2, 3), "hi"), ((2, 5), "~" * 60)),
)
MANY_FIGURES = 10 ** 999 + 7


def with_part(file, place, part):
    return file[:place] + (part,) + file[place + 1:]


def with_part_of(file, place, inner, part):
    return with_part(file, place, with_part(file[place], inner, part))


def listed_at_each_place(thing):
    """The thing, with one of the tuples in it, or itself, as a list."""
    found = [list(thing)]
    for place, part in enumerate(thing):
        if isinstance(part, tuple):
            found.extend(with_part(thing, place, listed) for listed in listed_at_each_place(part))
    return found


class IsFile(unittest.TestCase):
    def assert_file(self, thing):
        self.assertIs(is_file(thing), True, thing)

    def assert_none(self, thing):
        self.assertIs(is_file(thing), False, thing)

    def test_whole_files(self):
        self.assert_file(WHOLE)
        self.assert_file(((0, 1), "ab", ((0, 1),), (), (((0, 1), "text"),)))
        self.assert_file(((0, 1), "ab", ((0, 3), (1, 2)), (((1, 2), "b"),), (((0, 1), "hi"), ((0, 3), ""))))
        self.assert_file(((5, 9), "abcdef", ((5, 9),), (((5, 9), "a"),), (((5, 9), ""),)))
        self.assert_file(((3, 1), "a", tuple((house, house + 1) for house in range(6)), (), ()))

    def test_files_of_up_to_six_houses_with_none_to_several_names_and_texts(self):
        files = files_of_chance(1, 400)
        for file in files:
            self.assert_file(file)
        self.assertEqual({len(file[2]) for file in files}, set(range(1, 7)))
        self.assertTrue({0, 1, 2, 3} <= {len(file[3]) for file in files})
        self.assertTrue({0, 1, 2, 3} <= {len(file[4]) for file in files})

    def test_files_that_are_gone(self):
        self.assert_file(with_part(WHOLE, 4, ()))
        self.assert_file(((1, 1), "a", ((1, 2),), (), ()))

    def test_a_mark_may_stand_in_names_and_in_texts(self):
        self.assert_file(((0, 1), "a", ((0, 1),), (((0, 1), "b"),), (((0, 1), "b"),)))

    def test_counts_of_many_figures(self):
        mark = (0, MANY_FIGURES)
        self.assert_file((mark, "a", (mark,), ((mark, "b"),), ((mark, "c"),)))
        self.assert_none((mark, "a", (mark,), (((0, MANY_FIGURES + 1), "b"),), ()))

    def test_the_id(self):
        for spoilt in ((2, 6), (1, 1), (3, 1), (2, 0), (2, -1), (6, 1), (-1, 1), (2,), (2, 3, 1), (), "23", 23,
                       (2, True), (True, 3), (2, "3"), ("2", 3), (2, None), (None, 3), [2, 3], ((2, 3),), (2, (3,))):
            self.assert_none(with_part(WHOLE, 0, spoilt))
        for within in ((2, 5), (2, 1), (0, 3), (4, 1)):
            self.assert_file(with_part(WHOLE, 0, within))

    def test_the_first_name(self):
        for spoilt in ("", "abcdefg", "A", "a1", "a b", "ab\n", "\xe9", None, 1, True, ("a",), ["a"]):
            self.assert_none(with_part(WHOLE, 1, spoilt))

    def test_known_does_not_rise(self):
        for known in itertools.permutations(WHOLE[2]):
            self.assertEqual(is_file(with_part(WHOLE, 2, known)), known == WHOLE[2], known)

    def test_known_has_a_house_twice(self):
        for known in (((0, 2), (0, 3), (2, 5), (4, 1)), ((0, 3), (0, 3), (2, 5), (4, 1)),
                      ((0, 3), (2, 4), (2, 5), (4, 1)), ((0, 3), (2, 5), (4, 1), (4, 2))):
            self.assert_none(with_part(WHOLE, 2, known))

    def test_known_has_a_house_that_is_none(self):
        for known in (((-1, 1),) + WHOLE[2], WHOLE[2] + ((6, 1),), WHOLE[2] + ((MANY_FIGURES, 1),)):
            self.assert_none(with_part(WHOLE, 2, known))
        for strange in (None, "5", True, (), (5,), [5]):
            self.assert_none(with_part(WHOLE, 2, WHOLE[2] + ((strange, 1),)))
        self.assert_file(with_part(WHOLE, 2, WHOLE[2] + ((5, 1),)))

    def test_known_has_a_count_below_one_or_none_at_all(self):
        for count in (0, -1, -MANY_FIGURES, None, "1", True, (), [1]):
            self.assert_none(with_part(WHOLE, 2, WHOLE[2] + ((5, count),)))
        for mark in ((), (5,), (5, 1, 1), 5, None, "51", [5, 1]):
            self.assert_none(with_part(WHOLE, 2, WHOLE[2] + (mark,)))

    def test_known_is_empty_or_no_tuple(self):
        gone = ((0, 1), "a", ((0, 1),), (), ())
        for known in ((), None, 0, True, "", "01", (0, 1), [], [(0, 1)], {(0, 1): 1}):
            self.assert_none(with_part(gone, 2, known))

    def test_a_name(self):
        for spoilt in ("", "abcdefg", "A", "a1", " ", "a\n", None, 1, True, ("a",), ["a"]):
            for place in range(3):
                mark = WHOLE[3][place][0]
                self.assert_none(with_part_of(WHOLE, 3, place, (mark, spoilt)))

    def test_a_text(self):
        for spoilt in ("~" * 61, "\n", "hi\n", "\xe9", None, 1, True, ("hi",), ["hi"]):
            for place in range(3):
                mark = WHOLE[4][place][0]
                self.assert_none(with_part_of(WHOLE, 4, place, (mark, spoilt)))

    def test_a_pair_of_names_or_texts_has_another_form(self):
        for part in (3, 4):
            for place in range(3):
                mark, words = WHOLE[part][place]
                for pair in ((mark,), (mark, words, words), (words, mark), mark, words, (), None, 1, "ab",
                             mark + (words,), ((mark, words),)):
                    self.assert_none(with_part_of(WHOLE, part, place, pair))

    def test_the_order_of_names_and_of_texts(self):
        for part in (3, 4):
            for pairs in itertools.permutations(WHOLE[part]):
                self.assertEqual(is_file(with_part(WHOLE, part, pairs)), pairs == WHOLE[part], pairs)

    def test_a_mark_that_is_not_within_known(self):
        for part in (3, 4):
            for mark in ((4, 2), (4, MANY_FIGURES), (5, 1)):
                self.assert_none(with_part(WHOLE, part, WHOLE[part] + ((mark, "z"),)))
            for mark in ((1, 1), (3, 1)):
                self.assert_none(with_part(WHOLE, part, ((mark, "z"),)))
            for mark in ((4, 1), (0, 1), (2, 2)):
                self.assert_file(with_part(WHOLE, part, ((mark, "z"),)))

    def test_a_mark_that_stands_twice(self):
        for part in (3, 4):
            for place in range(3):
                mark, words = WHOLE[part][place]
                for other in (words, words + "a", "zzzz"):
                    pairs = WHOLE[part][:place + 1] + ((mark, other),) + WHOLE[part][place + 1:]
                    self.assert_none(with_part(WHOLE, part, pairs))

    def test_a_mark_of_names_or_texts_that_is_none(self):
        for part in (3, 4):
            for mark in ((0, 0), (0, -1), (-1, 1), (6, 1), (0, True), (False, 1), (0, "1"), (0,), (0, 1, 1), (),
                         None, 1, "01", [0, 1]):
                self.assert_none(with_part(WHOLE, part, ((mark, "a"),)))

    def test_a_list_in_the_place_of_a_tuple(self):
        spoilt = listed_at_each_place(WHOLE)
        self.assertEqual(len(spoilt), 2 + 4 + 7 + 7)
        for thing in spoilt:
            self.assert_none(thing)
        gone = ((0, 1), "a", ((0, 1),), (), ())
        self.assert_none(with_part(gone, 3, []))
        self.assert_none(with_part(gone, 4, []))

    def test_a_truth_in_the_place_of_a_number(self):
        one = ((1, 1), "a", ((1, 1),), (((1, 1), "a"),), (((1, 1), "a"),))
        self.assert_file(one)
        for mark in ((True, 1), (1, True)):
            self.assert_none(with_part(one, 0, mark))
            self.assert_none(with_part(one, 2, (mark,)))
            self.assert_none(with_part(one, 3, ((mark, "a"),)))
            self.assert_none(with_part(one, 4, ((mark, "a"),)))
        self.assert_none(((False, 1), "a", ((0, 1),), (), ()))
        self.assert_none(((0, 1), "a", ((False, 1),), (), ()))

    def test_a_part_more_or_less(self):
        for place in range(5):
            self.assert_none(WHOLE[:place] + WHOLE[place + 1:])
            self.assert_none(WHOLE[:place] + (WHOLE[place],) + WHOLE[place:])
        self.assert_none(WHOLE + ((),))
        self.assert_none(WHOLE + (None,))
        self.assert_none((WHOLE,))

    def test_things_of_other_kinds(self):
        for thing in STRANGE_THINGS + ("", "a", "0.1;ab;0.1;;;", (None,) * 5, ((),) * 5, [[]] * 5, "abcde"):
            self.assert_none(thing)
        for wrap in (in_list, in_tuple):
            self.assert_none(nested(WHOLE, 30, wrap))

    def test_a_strange_thing_in_the_place_of_each_part(self):
        for thing in STRANGE_THINGS:
            for place in range(5):
                if not (thing == () and place > 2):
                    self.assert_none(with_part(WHOLE, place, thing))
            for place in (2, 3, 4):
                for inner in range(3):
                    self.assert_none(with_part_of(WHOLE, place, inner, thing))

    def test_what_is_handed_in_stays_and_the_same_is_told_again(self):
        thing = [[1, ["a"]], (0, [1])]
        for _ in range(2):
            self.assert_none(thing)
            self.assertEqual(thing, [[1, ["a"]], (0, [1])])
            self.assert_file(WHOLE)


class Hearing(unittest.TestCase):
    known = ((0, 3), (2, 5), (5, 1))

    def test_the_same_count_or_a_smaller_one_is_within(self):
        for mark in ((0, 3), (0, 2), (0, 1), (2, 5), (2, 4), (2, 1), (5, 1)):
            self.assertIs(is_within(mark, self.known), True, mark)

    def test_a_greater_count_is_not_within(self):
        for mark in ((0, 4), (0, 5), (2, 6), (5, 2), (5, 3), (0, MANY_FIGURES)):
            self.assertIs(is_within(mark, self.known), False, mark)

    def test_a_house_that_does_not_stand_there_is_not_within(self):
        for mark in ((1, 1), (3, 1), (4, 1), (1, 3), (3, 5)):
            self.assertIs(is_within(mark, self.known), False, mark)
        for house in range(6):
            self.assertIs(is_within((house, 1), ()), False)

    def test_has_heard_of_itself_and_of_none(self):
        self.assertIs(has_heard(self.known, self.known), True)
        self.assertIs(has_heard(self.known, ()), True)
        self.assertIs(has_heard((), self.known), False)
        self.assertIs(has_heard((), ()), True)

    def test_has_heard_both_ways(self):
        for other, forth, back in (
            (((0, 2), (2, 5), (5, 1)), True, False),
            (((0, 3), (2, 5)), True, False),
            (((2, 1),), True, False),
            (((0, 3), (2, 6), (5, 1)), False, True),
            (((0, 3), (1, 1), (2, 5), (5, 1)), False, True),
            (((0, 4), (2, 4), (5, 1)), False, False),
            (((0, 3), (2, 5), (4, 1)), False, False),
            (((3, 1),), False, False),
        ):
            self.assertIs(has_heard(self.known, other), forth, other)
            self.assertIs(has_heard(other, self.known), back, other)

    def test_all_of_two_houses(self):
        knowns = [tuple((house, count) for house, count in enumerate(counts) if count)
                  for counts in itertools.product(range(4), repeat=2)]
        for known, other in itertools.product(knowns, repeat=2):
            there, asked = dict(known), dict(other)
            told = all(asked[house] <= there.get(house, 0) for house in asked)
            self.assertIs(has_heard(known, other), told, (known, other))


def small_files():
    """All files of two houses whose acts are (0, 1), (0, 2), (1, 1), with texts alone."""
    files = []
    for known in (((0, 1),), ((0, 2),), ((0, 1), (1, 1)), ((0, 2), (1, 1))):
        marks = [mark for mark in ((0, 1), (0, 2), (1, 1)) if is_within(mark, known)]
        for many in range(len(marks) + 1):
            for chosen in itertools.combinations(marks, many):
                files.append(((0, 1), "a", known, (), tuple((mark, same_words(mark)[1]) for mark in chosen)))
    return files


def told_together(one, other):
    """The words of 1.2, once more and in another way: by dicts, and pair by pair."""
    counts = [dict(one[2]), dict(other[2])]
    known = {house: max(count.get(house, 0) for count in counts) for house in {**counts[0], **counts[1]}}
    parts = []
    for place in (3, 4):
        sides = [dict(one[place]), dict(other[place])]
        stay = []
        for mark, words in set(one[place]) | set(other[place]):
            stands = [side.get(mark) == words for side in sides]
            unheard = [mark[1] > count.get(mark[0], 0) for count in counts]
            if all(stands) or (stands[0] and unheard[1]) or (stands[1] and unheard[0]):
                stay.append((mark, words))
        parts.append(tuple(sorted(stay)))
    return (one[0], one[1], tuple(sorted(known.items())), parts[0], parts[1])


class PutTogether(unittest.TestCase):
    def assert_together(self, one, other):
        before = (repr(one), repr(other))
        told = put_together(one, other)
        self.assertEqual(told, told_together(one, other))
        self.assertIs(is_file(told), True, told)
        self.assertIs(has_heard(told[2], one[2]), True)
        self.assertIs(has_heard(told[2], other[2]), True)
        self.assertEqual(put_together(other, one), told)
        self.assertEqual(put_together(one, other), told)
        self.assertEqual(put_together(told, one), told)
        self.assertEqual(put_together(other, told), told)
        self.assertEqual((repr(one), repr(other)), before)

    def test_known_has_the_greater_counts(self):
        one = ((1, 1), "ab", ((0, 3), (1, 1), (4, 2)), (), ())
        other = ((1, 1), "ab", ((1, 5), (2, 7), (4, 1), (5, 1)), (), ())
        known = ((0, 3), (1, 5), (2, 7), (4, 2), (5, 1))
        self.assertEqual(put_together(one, other), ((1, 1), "ab", known, (), ()))
        self.assertEqual(put_together(other, one), ((1, 1), "ab", known, (), ()))

    def test_what_stands_in_both_stays(self):
        for one_known, other_known in ((((0, 1),), ((0, 1),)), (((0, 2),), ((0, 1), (1, 4)))):
            one = ((0, 1), "a", one_known, (((0, 1), "b"),), (((0, 1), "hi"),))
            other = ((0, 1), "a", other_known, (((0, 1), "b"),), (((0, 1), "hi"),))
            told = put_together(one, other)
            self.assertEqual(told[3:], ((((0, 1), "b"),), (((0, 1), "hi"),)))

    def test_what_the_other_has_not_heard_of_stays(self):
        one = ((0, 1), "a", ((0, 1), (1, 2)), (((1, 2), "c"),), (((1, 1), "one"),))
        other = ((0, 1), "a", ((0, 1), (2, 2)), (((2, 2), "b"),), (((2, 1), "other"),))
        told = ((0, 1), "a", ((0, 1), (1, 2), (2, 2)),
                (((1, 2), "c"), ((2, 2), "b")), (((1, 1), "one"), ((2, 1), "other")))
        self.assertEqual(put_together(one, other), told)
        self.assertEqual(put_together(other, one), told)

    def test_what_the_other_took_away_goes(self):
        one = ((0, 1), "a", ((0, 2),), (((0, 2), "b"),), (((0, 1), "old"),))
        written = ((0, 1), "a", ((0, 2), (1, 1)), (((0, 2), "b"),), (((1, 1), "new"),))
        dropped = ((0, 1), "a", ((0, 2), (1, 1)), (), ())
        for later in (written, dropped):
            self.assertEqual(put_together(one, later), later)
            self.assertEqual(put_together(later, one), later)

    def test_a_text_outlives_a_drop_that_had_not_heard_of_it(self):
        written = ((0, 1), "a", ((0, 2),), (), (((0, 2), "new"),))
        dropped = ((0, 1), "a", ((0, 1), (1, 1)), (), ())
        told = ((0, 1), "a", ((0, 2), (1, 1)), (), (((0, 2), "new"),))
        self.assertEqual(put_together(written, dropped), told)
        self.assertEqual(put_together(dropped, written), told)

    def test_names_and_texts_do_not_disturb_one_another(self):
        one = ((0, 1), "a", ((0, 2),), (((0, 2), "b"),), ())
        other = ((0, 1), "a", ((0, 2),), (), (((0, 2), "b"),))
        self.assertEqual(put_together(one, other), ((0, 1), "a", ((0, 2),), (), ()))

    def test_other_words_under_one_mark_stand_in_one_only(self):
        one = ((0, 1), "a", ((0, 2),), (((0, 2), "b"),), (((0, 1), "one"), ((0, 2), "same")))
        other = ((0, 1), "a", ((0, 2),), (((0, 2), "c"),), (((0, 1), "other"), ((0, 2), "same")))
        self.assertEqual(put_together(one, other), ((0, 1), "a", ((0, 2),), (), (((0, 2), "same"),)))
        self.assert_together(one, other)

    def test_counts_of_many_figures(self):
        last = (0, MANY_FIGURES)
        one = ((0, 1), "a", (last,), (), ((last, "late"),))
        other = ((0, 1), "a", ((0, MANY_FIGURES - 1),), (), (((0, 1), "old"),))
        self.assertEqual(put_together(one, other), one)
        self.assert_together(one, other)

    def test_a_file_with_itself(self):
        for file in files_of_chance(2, 100) + [WHOLE]:
            self.assertEqual(put_together(file, file), file)

    def test_all_small_files(self):
        files = small_files()
        self.assertEqual(len(files), 2 + 4 + 4 + 8)
        for one, other in itertools.product(files, repeat=2):
            self.assert_together(one, other)

    def test_all_small_files_in_groups(self):
        for one, other, third in itertools.product(small_files(), repeat=3):
            self.assertEqual(put_together(put_together(one, other), third),
                             put_together(one, put_together(other, third)))

    def test_files_of_up_to_six_houses(self):
        for houses in range(1, 7):
            files = files_of_chance(houses, 24, houses=houses)
            for one, other in itertools.product(files, repeat=2):
                self.assert_together(one, other)

    def test_files_of_up_to_six_houses_in_groups_and_in_any_order(self):
        chance = Random(3)
        for _ in range(200):
            files = [file_of_chance(chance, same_words) for _ in range(4)]
            told = put_together(put_together(put_together(files[0], files[1]), files[2]), files[3])
            for order in itertools.permutations(files):
                first, second, third, fourth = order
                self.assertEqual(put_together(put_together(first, second), put_together(third, fourth)), told)
                self.assertEqual(put_together(first, put_together(second, put_together(third, fourth))), told)


class NameOf(unittest.TestCase):
    def test_no_name(self):
        self.assertEqual(name_of(((0, 1), "first", ((0, 1),), (), (((0, 1), "text"),))), "first")
        self.assertEqual(name_of(((0, 1), "first", ((0, 2),), (), ())), "first")

    def test_one_name(self):
        for name in ("a", "first", "z"):
            self.assertEqual(name_of(((0, 1), "first", ((0, 2),), (((0, 2), name),), ())), name)

    def test_the_least_of_several_names_whatever_their_marks(self):
        for names in itertools.permutations(("b", "c", "ba")):
            pairs = tuple(zip(((0, 2), (1, 1), (2, 9)), names))
            file = ((0, 1), "a", ((0, 2), (1, 1), (2, 9)), pairs, (((0, 1), ""),))
            self.assertEqual(name_of(file), "b", names)

    def test_a_name_twice(self):
        self.assertEqual(name_of(WHOLE), "ab")
        self.assertEqual(name_of(with_part(WHOLE, 4, ())), "ab")


class QuarrelsOf(unittest.TestCase):
    def quarrels(self, names, texts):
        marks = ((0, 1), (1, 1), (2, 1))
        known = ((0, 1), (1, 1), (2, 1))
        return quarrels_of(((0, 1), "a", known, tuple(zip(marks, names)), tuple(zip(marks, texts))))

    def test_no_quarrel(self):
        for names in ((), ("b",)):
            for text in ("", "hi"):
                self.assertEqual(self.quarrels(names, (text,)), ())

    def test_the_first_name_is_no_side_in_a_quarrel(self):
        self.assertEqual(self.quarrels(("b",), ("hi",)), ())

    def test_the_same_words_under_two_marks(self):
        self.assertEqual(self.quarrels(("b", "b"), ("hi", "hi", "hi")), ())
        self.assertEqual(self.quarrels(("b", "b", "b"), ("", "")), ())

    def test_two_sorts_of_names(self):
        for names in (("b", "c"), ("b", "c", "b"), ("b", "b", "c"), ("b", "c", "d")):
            self.assertEqual(self.quarrels(names, ("hi",)), ("name",))
            self.assertEqual(self.quarrels(names, ("hi", "hi")), ("name",))

    def test_two_sorts_of_texts(self):
        for texts in (("", "hi"), ("hi", "ho", "hi"), ("hi", "hi", "hi "), ("a", "b", "c")):
            self.assertEqual(self.quarrels((), texts), ("text",))
            self.assertEqual(self.quarrels(("b", "b"), texts), ("text",))

    def test_two_sorts_of_both(self):
        self.assertEqual(self.quarrels(("b", "c"), ("hi", "ho")), ("name", "text"))

    def test_a_file_that_is_gone(self):
        for names in ((), ("b",), ("b", "c"), ("b", "c", "d")):
            self.assertEqual(self.quarrels(names, ()), ())


if __name__ == "__main__":
    unittest.main()
