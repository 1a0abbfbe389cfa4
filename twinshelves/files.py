"""Files, as tuples (id, first, known, names, texts): what is one, and how two of one id are put together."""

from twinshelves.things import is_mark, is_name, is_text, is_tuple_of_length


def is_rising(row):
    return all([before < behind for before, behind in zip(row, row[1:])])


def is_known(thing):
    if not isinstance(thing, tuple) or not all([is_mark(mark) for mark in thing]):
        return False
    # Houses that rise are unlike, and marks rise with their houses.
    return is_rising([mark[0] for mark in thing])


def is_within(mark, known):
    return any([heard[0] == mark[0] and heard[1] >= mark[1] for heard in known])


def has_heard(known, other):
    return all([is_within(mark, known) for mark in other])


def is_marked_pair(thing):
    return is_tuple_of_length(thing, 2) and is_mark(thing[0])


def are_marked_pairs(thing, known):
    if not isinstance(thing, tuple) or not all([is_marked_pair(pair) for pair in thing]):
        return False
    marks = [pair[0] for pair in thing]
    return is_rising(marks) and has_heard(known, marks)


def are_names(thing, known):
    return are_marked_pairs(thing, known) and all([is_name(pair[1]) for pair in thing])


def are_texts(thing, known):
    return are_marked_pairs(thing, known) and all([is_text(pair[1]) for pair in thing])


def is_file(thing):
    if not is_tuple_of_length(thing, 5):
        return False
    known = thing[2]
    if not is_mark(thing[0]) or not is_name(thing[1]) or not is_known(known):
        return False
    return is_within(thing[0], known) and are_names(thing[3], known) and are_texts(thing[4], known)


def is_gone(file):
    return len(file[4]) == 0


def greater_counts(known, other):
    counts = dict(known)
    for mark in other:
        counts[mark[0]] = max(mark[1], counts.get(mark[0], mark[1]))
    return tuple(sorted(counts.items()))


def not_taken_away(pairs, other_pairs, other_known):
    # The other one had each mark within its known: where it lacks the pair, it took the pair away.
    return [pair for pair in pairs if pair in other_pairs or not is_within(pair[0], other_known)]


def pairs_together(pairs, known, other_pairs, other_known):
    mine = not_taken_away(pairs, other_pairs, other_known)
    others = not_taken_away(other_pairs, pairs, known)
    return tuple(sorted(set(mine + others)))


def put_together(one, other):
    names = pairs_together(one[3], one[2], other[3], other[2])
    texts = pairs_together(one[4], one[2], other[4], other[2])
    return (one[0], one[1], greater_counts(one[2], other[2]), names, texts)


def name_of(file):
    return min([pair[1] for pair in file[3]], default=file[1])


def has_several_sorts(pairs):
    return len(set([pair[1] for pair in pairs])) > 1


def quarrels_of(file):
    if is_gone(file):
        return ()
    kinds = []
    if has_several_sorts(file[3]):
        kinds.append("name")
    if has_several_sorts(file[4]):
        kinds.append("text")
    return tuple(kinds)
