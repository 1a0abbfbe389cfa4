"""The names and arguments of the document's interface."""

import importlib
import inspect
import unittest

FUNCTIONS = {
    "things": ("is_name(thing)", "is_text(thing)"),
    "files": ("is_file(thing)", "is_within(mark, known)", "has_heard(known, other)", "put_together(one, other)",
              "name_of(file)", "quarrels_of(file)"),
    "writing": ("written(file)",),
    "reading": ("read(text)",),
    "houses": ("House(number)",),
    "meetings": ("Meeting(one, other)", "in_step(one, other)"),
    "parcels": ("parcel(text, old)", "opened(parcel, old)", "weight(parcel)", "best_old(text, olds)",
                "is_parcel(thing, text, old)"),
    "journals": ("row_of(house, which)", "rows_in(journal)", "woken(journal)"),
    "letters": ("letter(house, heard)", "take_letter(house, text)"),
}
HOUSE = (
    "make(self, name, text)", "write(self, which, text)", "rename(self, which, name)", "drop(self, which)",
    "number(self)", "count(self)", "file(self, which)", "ids(self)", "gone(self)", "text_of(self, which)",
    "quarrels(self)", "shown(self)", "take(self, file)", "heard(self)", "news_for(self, heard)",
    "told_by(self, number, heard)", "can_forget(self, numbers)", "forget(self, numbers)", "lead_on(self, file)",
)
MEETING = ("rows(self)", "step(self)", "rest(self)")


class Interface(unittest.TestCase):
    def assert_there(self, holder, call):
        name = call.partition("(")[0]
        self.assertEqual(name + str(inspect.signature(getattr(holder, name))), call)

    def test_functions_and_classes(self):
        for module, calls in FUNCTIONS.items():
            for call in calls:
                self.assert_there(importlib.import_module("twinshelves." + module), call)

    def test_methods_of_a_house(self):
        house = importlib.import_module("twinshelves.houses").House
        for call in HOUSE:
            self.assert_there(house, call)

    def test_methods_of_a_meeting(self):
        meeting = importlib.import_module("twinshelves.meetings").Meeting
        for call in MEETING:
            self.assert_there(meeting, call)


if __name__ == "__main__":
    unittest.main()
