"""Values of a make's root form, kept as files and taken from them."""

from makes.packing import packed, unpacked
from makes.reading import read
from makes.writing import written


def kept(make, value):
    return packed(written(make, make[0], value))


def taken(make, file):
    return read(make, make[0], unpacked(file))
