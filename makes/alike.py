"""Whether a value of one make tells what a value of another make tells."""

from makes.forms import form_of
from makes.shapes import item_sort, member_of
from makes.values import is_value
from makes.writing import written, written_fields


def tells_alike(make, name, value, other, other_name, told):
    if not is_value(other, other_name, told):
        return False
    waiting = [(name, value, other_name, told)]
    while waiting:
        inner = parts_of_both(make, other, waiting.pop())
        if inner is None:
            return False
        waiting.extend(inner)
    return True


# Both is (name, value, other_name, told). Told is what has to be alike within, as such tuples; None of what is unlike.
def parts_of_both(make, other, both):
    shape = form_of(make, both[0])
    other_shape = form_of(other, both[2])
    value = both[1]
    told = both[3]
    sort = item_sort(shape)
    if item_sort(other_shape) != sort:
        return None
    if sort == "row":
        return parts_of_rows(shape, value, other_shape, told)
    if sort == "map":
        return parts_of_maps(shape, value, other_shape, told)
    if sort == "rec":
        return parts_of_records(make, shape, value, other_shape, told)
    if sort == "arm":
        return parts_of_choices(make, shape, value, other_shape, told)
    # True tells what 1 tells, False what 0 tells: as Python has them.
    return [] if value == told else None


def parts_of_rows(shape, value, other_shape, told):
    if len(value) != len(told):
        return None
    return [(shape[1], part, other_shape[1], other_part) for part, other_part in zip(value, told)]


def parts_of_maps(shape, value, other_shape, told):
    if [pair[0] for pair in value] != [pair[0] for pair in told]:
        return None
    return parts_of_rows(shape, [pair[1] for pair in value], other_shape, [pair[1] for pair in told])


def parts_of_records(make, shape, value, other_shape, told):
    known = dict([(field[0], (field[2], part)) for field, part in zip(shape[1], value[0])])
    parts = []
    for field, part in zip(other_shape[1], told[0]):
        if field[0] in known:
            parts.append(known[field[0]] + (field[2], part))
        elif field[3] != (part,):
            return None
    unknown = [(field, part) for field, part in zip(shape[1], value[0]) if member_of(other_shape, field[0]) is None]
    return parts if told[1] == tuple(written_fields(make, unknown)) else None


def parts_of_choices(make, shape, value, other_shape, told):
    number = value[1]
    of = member_of(shape, number)[2]
    if told[1] != number:
        return None
    if told[0] == "arm":
        return [(of, value[2], member_of(other_shape, number)[2], told[2])]
    return [] if told[2] == written(make, of, value[2]) else None
