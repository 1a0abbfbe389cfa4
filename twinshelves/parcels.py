"""Parcels: a text for one who has another text, in pieces that are kept of that one and pieces that are new."""

from twinshelves.things import is_tuple_of_length, is_whole

PIECE_WEIGHT = 2


def is_keep(thing, old):
    if not is_tuple_of_length(thing, 3) or thing[0] != "keep" or not is_whole(thing[1]) or not is_whole(thing[2]):
        return False
    return thing[1] >= 0 and thing[2] >= 1 and thing[1] + thing[2] <= len(old)


def is_new(thing):
    return is_tuple_of_length(thing, 2) and thing[0] == "new" and isinstance(thing[1], str) and thing[1] != ""


def is_parcel(thing, text, old):
    if not isinstance(thing, tuple) or not all([is_keep(piece, old) or is_new(piece) for piece in thing]):
        return False
    return opened(thing, old) == text


def piece_opened(piece, old):
    return piece[1] if piece[0] == "new" else old[piece[1]:piece[1] + piece[2]]


def opened(parcel, old):
    return "".join([piece_opened(piece, old) for piece in parcel])


def piece_weight(piece):
    return PIECE_WEIGHT + len(piece[1]) if piece[0] == "new" else PIECE_WEIGHT


def weight(parcel):
    return sum([piece_weight(piece) for piece in parcel])


def pieces_ahead(rest, old):
    beginnings = [rest[:many] for many in range(1, len(rest) + 1)]
    news = [("new", signs) for signs in beginnings]
    return news + [("keep", old.find(signs), len(signs)) for signs in beginnings if signs in old]


def signs_in(piece):
    return len(piece[1]) if piece[0] == "new" else piece[2]


def put_ahead(piece, weighed):
    return (piece_weight(piece) + weighed[0], (piece,) + weighed[1])


def parcel_weighed(text, old):
    # At place n: the least weight for the last n signs of the text, and a parcel for these.
    least = [(0, ())]
    for length in range(1, len(text) + 1):
        pieces = pieces_ahead(text[len(text) - length:], old)
        least.append(min([put_ahead(piece, least[length - signs_in(piece)]) for piece in pieces]))
    return least[len(text)]


def parcel(text, old):
    return parcel_weighed(text, old)[1]


def best_old(text, olds):
    weights = [parcel_weighed(text, old)[0] for old in olds]
    return weights.index(min(weights))
