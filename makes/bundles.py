"""Bundles: files of rows, as the lists of the files in them, by bytes and sizes alone."""

from makes.errors import NoPlace
from makes.longs import behind_long, long_of
from makes.looking import room_parts, span_at
from makes.packing import SORTS


def bundled(files):
    room = []
    for file in files:
        room.extend(file)
    return bundle_of(room)


def many_in(bundle):
    return len(room_parts(bundle, 0))


def nth(bundle, k):
    span = span_at(bundle, (("at", k),))
    return tuple(bundle[span[0]:span[1]])


def cut(bundle, first, end):
    bounds = [place for label, place in room_parts(bundle, 0)] + [len(bundle)]
    if first < 0 or end >= len(bounds) or first > end:
        raise NoPlace(0)
    return bundle_of(bundle[bounds[first]:bounds[end]])


def joined(one, other):
    return bundle_of(room_of(one) + room_of(other))


def bundle_of(room):
    return (SORTS.index("row"),) + long_of(len(room)) + tuple(room)


def room_of(bundle):
    return tuple(bundle[behind_long(bundle, 1):])
