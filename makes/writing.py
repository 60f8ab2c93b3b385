"""Values written as items."""

from makes.forms import form_of
from makes.shapes import member_of


def written(make, name, value):
    shape = form_of(make, name)
    sort = shape[0]
    if sort == "truth":
        return ("whole", int(value))
    if sort == "row":
        return (sort, tuple([written(make, shape[1], part) for part in value]))
    if sort == "map":
        return (sort, tuple([(key, written(make, shape[1], part)) for key, part in value]))
    if sort == "record":
        pairs = written_fields(make, list(zip(shape[1], value[0]))) + list(value[1])
        return ("rec", tuple(sorted(pairs, key=lambda pair: pair[0])))
    if sort == "choice":
        item = value[2] if value[0] == "other" else written(make, member_of(shape, value[1])[2], value[2])
        return ("arm", value[1], item)
    return (sort, value)


# Of tuples (field, value): numbers with items, without the fields that may be left out and have their default.
def written_fields(make, fields):
    return [(field[0], written(make, field[2], value)) for field, value in fields if field[3] != (value,)]
