"""Items read by a form: the values that they say."""

from makes.errors import BadItem
from makes.forms import form_of
from makes.shapes import bounds_of, item_sort, may_be_left_out, member_of


def read(make, name, item):
    return read_at(make, name, item, ())


# The path is the way to this item, for what can not be read.
def read_at(make, name, item, path):
    shape = form_of(make, name)
    sort = shape[0]
    if not can_be_read(shape, item):
        raise BadItem(path)
    if sort == "truth":
        return item[1] == 1
    if sort == "row":
        return tuple([read_at(make, shape[1], part, path + (("at", k),)) for k, part in enumerate(item[1])])
    if sort == "map":
        return tuple([(key, read_at(make, shape[1], part, path + (("key", key),))) for key, part in item[1]])
    if sort == "record":
        return read_record(make, shape, item, path)
    if sort == "choice":
        return read_choice(make, shape, item, path)
    return item[1]


# Whether the form can read it, if only it can read what is within it.
def can_be_read(shape, item):
    sort = item_sort(shape)
    if item[0] != sort:
        return False
    if sort == "whole":
        bounds = bounds_of(shape)
        return bounds[0] <= item[1] <= bounds[1]
    if sort == "text":
        return len(item[1]) <= shape[1]
    if sort == "row" or sort == "map":
        return len(item[1]) <= shape[2]
    return sort == "rec" or shape[3] or member_of(shape, item[1]) is not None


def read_record(make, shape, item, path):
    inner = dict(item[1])
    known = []
    for field in shape[1]:
        way = path + (("field", field[0]),)
        if field[0] in inner:
            known.append(read_at(make, field[2], inner[field[0]], way))
        elif may_be_left_out(field):
            known.append(field[3][0])
        else:
            raise BadItem(way)
    others = [pair for pair in item[1] if member_of(shape, pair[0]) is None]
    return (tuple(known), tuple(others))


def read_choice(make, shape, item, path):
    number = item[1]
    arm = member_of(shape, number)
    if arm is None:
        return ("other", number, item[2])
    return ("arm", number, read_at(make, arm[2], item[2], path + (("arm", number),)))
