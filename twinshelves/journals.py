"""Journals: rows that tell one of a house's files and how many acts it did, and the way back to a house."""

from twinshelves.errors import NoWriting
from twinshelves.houses import House
from twinshelves.reading import mark_in, number_in, read
from twinshelves.things import is_house
from twinshelves.writing import mark_written, written


def row_of(house, which):
    writing = written(house.file(which))
    return mark_written((house.number(), house.count())) + "/" + str(len(writing)) + ":" + writing


def state_in(part):
    # Written like a mark, but a house that did no act has rows, too.
    state = mark_in(part)
    if not is_house(state[0]):
        raise NoWriting("a row tells a number that no house has")
    return state


def row_at(journal, place):
    colon = journal.find(":", place)
    if colon < 0:
        raise NoWriting("a row tells no number of signs")
    head = journal[place:colon].partition("/")
    state = state_in(head[0])
    end = colon + 1 + number_in(head[2])
    if end > len(journal):
        raise NoWriting("a row is broken off")
    return (journal[place:end], state, read(journal[colon + 1:end]))


def whole_rows(journal):
    rows = []
    place = 0
    while place < len(journal):
        try:
            row = row_at(journal, place)
        except NoWriting:
            break
        rows.append(row)
        place += len(row[0])
    return rows


def rows_in(journal):
    return tuple([row[0] for row in whole_rows(journal)])


def woken(journal):
    rows = whole_rows(journal)
    number = rows[0][1][0] if rows else 0
    house = House(number)
    for row in rows:
        house.take(row[2])
    house.go_on_from(max([row[1][1] for row in rows if row[1][0] == number], default=0))
    return house
