"""Points 28 to 32 read row by row, as slow as it likes: what the tests hold the program against."""

from makes.items import is_item, is_name

ITEM_SORTS = {"whole": "whole", "truth": "whole", "text": "text", "row": "row", "map": "map", "record": "rec",
              "choice": "arm"}


def same(one, other):
    """The same, with all kinds within."""
    if type(one) is not type(other):
        return False
    if isinstance(one, (tuple, list)):
        return len(one) == len(other) and all(same(*both) for both in zip(one, other))
    return one == other


def numbers_of(shape):
    return [member[0] for member in shape[1]]


def is_number(thing):
    return type(thing) is int and 1 <= thing <= 999


def is_value_plainly(make, name, thing, own=False):
    shape = make[1][name]
    sort = shape[0]
    if sort == "whole":
        return type(thing) is int and shape[1] <= thing <= shape[2]
    if sort == "truth":
        return type(thing) is bool
    if sort == "text":
        return type(thing) is str and len(thing) <= shape[1]
    if type(thing) is not tuple:
        return False
    if sort == "row":
        return len(thing) <= shape[2] and all(is_value_plainly(make, shape[1], part, own) for part in thing)
    if sort == "map":
        if len(thing) > shape[2] or not all(type(pair) is tuple and len(pair) == 2 for pair in thing):
            return False
        keys = [pair[0] for pair in thing]
        return (all(is_name(key) for key in keys) and keys == sorted(set(keys))
                and all(is_value_plainly(make, shape[1], pair[1], own) for pair in thing))
    if sort == "record":
        return is_record_plainly(make, shape, thing, own)
    return is_choice_plainly(make, shape, thing, own)


def is_record_plainly(make, shape, thing, own):
    if len(thing) != 2 or not type(thing[0]) is type(thing[1]) is tuple or len(thing[0]) != len(shape[1]):
        return False
    for field, part in zip(shape[1], thing[0]):
        if not is_value_plainly(make, field[2], part, own):
            return False
    for pair in thing[1]:
        if type(pair) is not tuple or len(pair) != 2 or not is_number(pair[0]) or not is_item(pair[1]):
            return False
    numbers = [pair[0] for pair in thing[1]]
    if own and numbers:
        return False
    return numbers == sorted(set(numbers) - set(numbers_of(shape)))


def is_choice_plainly(make, shape, thing, own):
    if len(thing) != 3 or not is_number(thing[1]):
        return False
    ofs = {arm[0]: arm[2] for arm in shape[1]}
    if thing[0] == "other":
        return shape[3] and not own and thing[1] not in ofs and is_item(thing[2])
    return thing[0] == "arm" and thing[1] in ofs and is_value_plainly(make, ofs[thing[1]], thing[2], own)


def item_plainly(make, name, value):
    shape = make[1][name]
    sort = shape[0]
    if sort == "truth":
        return ("whole", {True: 1, False: 0}[value])
    if sort == "row":
        return ("row", tuple(item_plainly(make, shape[1], part) for part in value))
    if sort == "map":
        return ("map", tuple((key, item_plainly(make, shape[1], part)) for key, part in value))
    if sort == "record":
        items = dict(value[1])
        for (number, field, of, default), part in zip(shape[1], value[0]):
            if not default or not same(default[0], part):
                items[number] = item_plainly(make, of, part)
        return ("rec", tuple((number, items[number]) for number in sorted(items)))
    if sort == "choice" and value[0] == "arm":
        of = {arm[0]: arm[2] for arm in shape[1]}[value[1]]
        return ("arm", value[1], item_plainly(make, of, value[2]))
    return ("arm", value[1], value[2]) if sort == "choice" else (sort, value)


def faults_of(make, name, item, path=()):
    """The ways to all things that can not be read, in the document's order."""
    shape = make[1][name]
    if item[0] != ITEM_SORTS[shape[0]]:
        return [path]
    if shape[0] == "truth":
        return [] if item[1] in (0, 1) else [path]
    if shape[0] == "whole":
        return [] if item[1] in range(shape[1], shape[2] + 1) else [path]
    if shape[0] == "text":
        return [path] if len(item[1]) > shape[1] else []
    faults = []
    if shape[0] in ("row", "map"):
        if len(item[1]) > shape[2]:
            return [path]
        for k, part in enumerate(item[1]):
            step = ("at", k) if shape[0] == "row" else ("key", part[0])
            faults.extend(faults_of(make, shape[1], part if shape[0] == "row" else part[1], path + (step,)))
    elif shape[0] == "record":
        for number, field, of, default in sorted(shape[1]):
            way = path + (("field", number),)
            for inner in [inner for label, inner in item[1] if label == number]:
                faults.extend(faults_of(make, of, inner, way))
            if not default and number not in [label for label, inner in item[1]]:
                faults.append(way)
    elif item[1] in numbers_of(shape):
        of = {arm[0]: arm[2] for arm in shape[1]}[item[1]]
        faults.extend(faults_of(make, of, item[2], path + (("arm", item[1]),)))
    elif not shape[3]:
        return [path]
    return faults


def value_plainly(make, name, item):
    """Of an item without faults."""
    shape = make[1][name]
    if shape[0] == "truth":
        return {0: False, 1: True}[item[1]]
    if shape[0] == "row":
        return tuple(value_plainly(make, shape[1], part) for part in item[1])
    if shape[0] == "map":
        return tuple((key, value_plainly(make, shape[1], part)) for key, part in item[1])
    if shape[0] == "record":
        items = dict(item[1])
        known = [value_plainly(make, of, items.pop(number)) if number in items else default[0]
                 for number, field, of, default in shape[1]]
        return (tuple(known), tuple(sorted(items.items(), key=lambda pair: pair[0])))
    if shape[0] == "choice":
        ofs = {arm[0]: arm[2] for arm in shape[1]}
        if item[1] not in ofs:
            return ("other",) + item[1:]
        return ("arm", item[1], value_plainly(make, ofs[item[1]], item[2]))
    return item[1]


class Unlike(Exception):
    pass


def twin_of(make, name, value, other, other_name):
    """The one thing that may tell alike what an own value tells, or None; it need not be a value of its form."""
    try:
        return twin(make, name, value, other, other_name)
    except Unlike:
        return None


def twin(make, name, value, other, other_name):
    shape = make[1][name]
    other_shape = other[1][other_name]
    if ITEM_SORTS[shape[0]] != ITEM_SORTS[other_shape[0]]:
        raise Unlike
    if other_shape[0] == "whole":
        return {True: 1, False: 0}.get(value, value)
    if other_shape[0] == "truth":
        if value not in (0, 1):
            raise Unlike
        return {1: True, 0: False}[value]
    if shape[0] == "row":
        return tuple(twin(make, shape[1], part, other, other_shape[1]) for part in value)
    if shape[0] == "map":
        return tuple((key, twin(make, shape[1], part, other, other_shape[1])) for key, part in value)
    if shape[0] == "record":
        return twin_record(make, shape, value, other, other_shape)
    if shape[0] == "choice":
        ofs = {arm[0]: arm[2] for arm in shape[1]}
        other_ofs = {arm[0]: arm[2] for arm in other_shape[1]}
        if value[1] in other_ofs:
            return ("arm", value[1], twin(make, ofs[value[1]], value[2], other, other_ofs[value[1]]))
        return ("other", value[1], item_plainly(make, ofs[value[1]], value[2]))
    return value


def twin_record(make, shape, value, other, other_shape):
    parts = {field[0]: (field[2], part) for field, part in zip(shape[1], value[0])}
    known = []
    for number, field, of, default in other_shape[1]:
        if number in parts:
            known.append(twin(make, parts[number][0], parts[number][1], other, of))
        elif default:
            known.append(default[0])
        else:
            raise Unlike
    others = []
    for (number, field, of, default), part in zip(shape[1], value[0]):
        if number not in numbers_of(other_shape) and not (default and same(default[0], part)):
            others.append((number, item_plainly(make, of, part)))
    return (tuple(known), tuple(others))


def alike_plainly(make, name, value, other, other_name, told):
    wanted = twin_of(make, name, value, other, other_name)
    return wanted is not None and same(wanted, told) and is_value_plainly(other, other_name, told)
