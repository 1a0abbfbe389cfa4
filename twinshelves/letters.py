"""Letters: rows of files for one who lacks them, which may be lost, broken off, doubled and late."""

from twinshelves.journals import row_of, whole_rows


def letter(house, heard):
    return "".join([row_of(house, file[0]) for file in house.news_for(heard)])


def take_letter(house, text):
    changed = 0
    for row in whole_rows(text):
        if house.take(row[2]):
            changed += 1
    return changed
