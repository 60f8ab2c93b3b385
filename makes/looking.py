"""Looking within a file: where the item stands that a path leads to, without what stands beside being read."""

from makes.errors import NoPlace
from makes.longs import behind_long, long_at
from makes.packing import SORTS, unpacked_between

# The sort of item that a step leads into.
SORTS_OF_STEPS = {"at": "row", "key": "map", "field": "rec", "arm": "arm"}


def span_at(file, path):
    at = 0
    for number, step in enumerate(path):
        at = place_behind(file, at, step)
        if at is None:
            raise NoPlace(number)
    return (at, behind_item(file, at))


def item_at(file, path):
    span = span_at(file, path)
    return unpacked_between(file, span[0], span[1])


# The place of the item that a step leads to, or None.
def place_behind(file, at, step):
    sort = SORTS[file[at]]
    if sort != SORTS_OF_STEPS[step[0]]:
        return None
    wanted = codes_of(step[1]) if sort == "map" else step[1]
    parts = [arm_part(file, at)] if sort == "arm" else room_parts(file, at)
    for label, place in parts:
        if label == wanted:
            return place
    return None


def codes_of(name):
    return tuple([ord(sign) for sign in name])


# Parts are tuples (label, place): by what a step finds the part, and where its item begins.
def arm_part(file, at):
    return (long_at(file, at + 1), behind_long(file, at + 1))


def room_parts(file, at):
    sort = SORTS[file[at]]
    begin = behind_long(file, at + 1)
    end = begin + long_at(file, at + 1)
    parts = []
    while begin < end:
        place = behind_label(file, begin, sort)
        label = len(parts) if sort == "row" else label_at(file, begin, sort)
        parts.append((label, place))
        begin = behind_item(file, place)
    return parts


def behind_label(file, at, sort):
    if sort == "row":
        return at
    if sort == "rec":
        return behind_long(file, at)
    return behind_long(file, at) + long_at(file, at)


# A key is told by its codes, a number as it is.
def label_at(file, at, sort):
    if sort == "rec":
        return long_at(file, at)
    return tuple(file[behind_long(file, at):behind_label(file, at, sort)])


def behind_item(file, at):
    while SORTS[file[at]] == "arm":
        at = behind_long(file, at + 1)
    behind = behind_long(file, at + 1)
    if SORTS[file[at]] == "whole":
        return behind
    # A text's count and a size both tell how many bytes are left of the item.
    return behind + long_at(file, at + 1)
