"""Values: what the items of a form say, and which of them a make's programs write themselves."""

from makes.forms import form_of
from makes.items import are_labels, are_pairs, is_item, is_name, is_number
from makes.shapes import is_single_value, member_of


def is_value(make, name, thing):
    return is_right_through(make, name, thing, False)


def is_own(make, name, thing):
    return is_right_through(make, name, thing, True)


# Values are gone through by a list of what is left: so how deep they are is no matter for Python's own calls.
def is_right_through(make, name, thing, own):
    waiting = [(name, thing)]
    while waiting:
        part = waiting.pop()
        inner = parts_in(form_of(make, part[0]), part[1], own)
        if inner is None:
            return False
        waiting.extend(inner)
    return True


# The things that have to be values within it, each behind the name of its form; None of what is no value anyway.
def parts_in(shape, thing, own):
    sort = shape[0]
    if sort == "row":
        return parts_in_row(shape, thing)
    if sort == "map":
        return parts_in_map(shape, thing)
    if sort == "record":
        return parts_in_record(shape, thing, own)
    if sort == "choice":
        return parts_in_choice(shape, thing, own)
    return [] if is_single_value(shape, thing) else None


def parts_in_row(shape, thing):
    if not isinstance(thing, tuple) or len(thing) > shape[2]:
        return None
    return [(shape[1], part) for part in thing]


def parts_in_map(shape, thing):
    if not are_pairs(thing) or len(thing) > shape[2] or not are_labels([pair[0] for pair in thing], is_name):
        return None
    return [(shape[1], pair[1]) for pair in thing]


def parts_in_record(shape, thing, own):
    if not isinstance(thing, tuple) or len(thing) != 2:
        return None
    known = thing[0]
    if not isinstance(known, tuple) or len(known) != len(shape[1]) or not are_others(shape, thing[1], own):
        return None
    return [(field[2], part) for field, part in zip(shape[1], known)]


def are_others(shape, thing, own):
    if own:
        return thing == ()
    if not are_pairs(thing) or not are_labels([pair[0] for pair in thing], is_number):
        return False
    return all([member_of(shape, number) is None and is_item(item) for number, item in thing])


def parts_in_choice(shape, thing, own):
    if not isinstance(thing, tuple) or len(thing) != 3 or not is_number(thing[1]):
        return None
    arm = member_of(shape, thing[1])
    if thing[0] == "arm" and arm is not None:
        return [(arm[2], thing[2])]
    is_other = thing[0] == "other" and arm is None and shape[3] and not own and is_item(thing[2])
    return [] if is_other else None
