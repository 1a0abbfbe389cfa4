"""Files as texts: five parts, each followed by ';'."""


def mark_written(mark):
    return str(mark[0]) + "." + str(mark[1])


def name_written(pair):
    return mark_written(pair[0]) + "=" + pair[1]


def text_written(pair):
    # A text may hold any sign, so no sign could end it: the number of its signs stands ahead.
    return mark_written(pair[0]) + "=" + str(len(pair[1])) + ":" + pair[1]


def written(file):
    parts = [
        mark_written(file[0]),
        file[1],
        ",".join([mark_written(mark) for mark in file[2]]),
        ",".join([name_written(pair) for pair in file[3]]),
        "".join([text_written(pair) for pair in file[4]]),
    ]
    return "".join([part + ";" for part in parts])
