"""Shapes: what a form of a make allows, each one looked at by itself."""

from makes.items import LONGEST_TEXT, is_item_whole, is_name, is_number, is_text, is_whole, rises

MOST_PARTS = 20
MOST_FIELDS = 8
ITEM_SORTS = {
    "whole": "whole", "truth": "whole", "text": "text", "row": "row", "map": "map", "record": "rec", "choice": "arm",
}


def is_shape(thing):
    if not isinstance(thing, tuple) or len(thing) == 0:
        return False
    sort = thing[0]
    if sort == "whole":
        return len(thing) == 3 and are_bounds(thing[1], thing[2])
    if sort == "truth":
        return len(thing) == 1
    if sort == "text":
        return len(thing) == 2 and is_whole(thing[1], 0, LONGEST_TEXT)
    if sort == "row" or sort == "map":
        return len(thing) == 3 and is_name(thing[1]) and is_whole(thing[2], 0, MOST_PARTS)
    if sort == "record":
        return len(thing) == 3 and are_members(thing[1], thing[2], is_field)
    if sort == "choice":
        return len(thing) == 4 and are_members(thing[1], thing[2], is_arm) and isinstance(thing[3], bool)
    return False


def are_bounds(low, high):
    return is_item_whole(low) and is_item_whole(high) and low <= high


# Members are the fields of a record or the arms of a choice.
def are_members(members, struck, is_member):
    if not is_short_tuple(members) or not all([is_member(member) for member in members]):
        return False
    numbers = [member[0] for member in members]
    names = [member[1] for member in members]
    return rises(numbers) and len(set(names)) == len(names) and is_struck(struck, numbers)


def is_struck(thing, taken):
    if not is_short_tuple(thing) or not all([is_number(number) for number in thing]):
        return False
    return rises(thing) and not any([number in taken for number in thing])


def is_short_tuple(thing):
    return isinstance(thing, tuple) and len(thing) <= MOST_FIELDS


def is_field(thing):
    return isinstance(thing, tuple) and len(thing) == 4 and is_arm(thing[:3]) and is_default(thing[3])


def is_default(thing):
    return isinstance(thing, tuple) and len(thing) <= 1


def is_arm(thing):
    if not isinstance(thing, tuple) or len(thing) != 3:
        return False
    return is_number(thing[0]) and is_name(thing[1]) and is_name(thing[2])


# Of the sorts whose values have no parts; of any other sort of shape it is False.
def is_single_value(shape, thing):
    if shape[0] == "whole":
        return is_whole(thing, shape[1], shape[2])
    if shape[0] == "truth":
        return isinstance(thing, bool)
    return shape[0] == "text" and is_text(thing, shape[1])


# The sort of the items that the values of a form are written as.
def item_sort(shape):
    return ITEM_SORTS[shape[0]]


# The least and the greatest number that a whole or truth form allows.
def bounds_of(shape):
    return (0, 1) if shape[0] == "truth" else (shape[1], shape[2])


# The field or the arm of this number, or None.
def member_of(shape, number):
    for member in shape[1]:
        if member[0] == number:
            return member
    return None


def may_be_left_out(field):
    return field[3] != ()
