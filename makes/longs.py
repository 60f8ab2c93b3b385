"""Longs: whole numbers as bytes, as many as each one needs."""


def long_of(n):
    figures = []
    while n >= 128:
        figures.append(n % 128 + 128)
        n = n // 128
    figures.append(n)
    return tuple(figures)


# These two are for bytes that are known to hold a long at this place: they refuse nothing.


def behind_long(file, at):
    while file[at] >= 128:
        at = at + 1
    return at + 1


def long_at(file, at):
    n = 0
    for figure in reversed(file[at:behind_long(file, at)]):
        n = n * 128 + figure % 128
    return n
