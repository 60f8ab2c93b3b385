"""Deeds: the small steps by which a new make is made of one."""

from makes.errors import BadDeed
from makes.forms import form_of, is_form, is_make
from makes.items import is_name, is_number
from makes.shapes import is_arm, is_field, is_shape, may_be_left_out, member_of

# How many things each deed has, its word among them.
SIZES = {"add": 3, "strike": 3, "rename": 4, "widen": 3, "arm": 3, "open": 2, "form": 3}
# The sorts of forms that each deed is for; "form" is for none.
SORTS_FOR = {
    "add": ("record",), "strike": ("record", "choice"), "rename": ("record", "choice"),
    "widen": ("whole", "text", "row", "map"), "arm": ("choice",), "open": ("choice",),
}


def done(make, deed):
    word = fault_of(make, deed)
    if word is not None:
        raise BadDeed(word)
    forms = dict(make[1])
    forms[deed[1]] = shape_behind(form_of(make, deed[1]), deed)
    told = (make[0], forms)
    if not is_make(told):
        raise BadDeed("make")
    return told


def all_done(make, deeds):
    makes = [(make[0], dict(make[1]))]
    for deed in deeds:
        makes.append(done(makes[-1], deed))
    return makes


# The first word by which it is refused, but for "make"; None where there is none.
def fault_of(make, deed):
    if not is_deed(deed):
        return "deed"
    if deed[0] == "form":
        return fault_of_form(make, deed)
    if not is_form(make, deed[1]):
        return "form"
    shape = form_of(make, deed[1])
    if shape[0] not in SORTS_FOR[deed[0]]:
        return "sort"
    if not is_thing_for(deed):
        return "thing"
    if deed[0] == "widen":
        return "narrow" if is_narrower(shape, deed[2]) else None
    return None if deed[0] == "open" else fault_of_member(shape, deed)


def is_deed(thing):
    if not isinstance(thing, tuple) or len(thing) == 0 or not isinstance(thing[0], str):
        return False
    return thing[0] in SIZES and len(thing) == SIZES[thing[0]]


def fault_of_form(make, deed):
    if not is_name(deed[1]) or is_form(make, deed[1]):
        return "form"
    return None if is_shape(deed[2]) else "thing"


# Whether what stands behind the form's name is such as the deed has.
def is_thing_for(deed):
    word = deed[0]
    if word == "add":
        return is_field(deed[2])
    if word == "strike":
        return is_number(deed[2])
    if word == "rename":
        return is_number(deed[2]) and is_name(deed[3])
    if word == "widen":
        return is_shape(deed[2])
    return word == "open" or is_arm(deed[2])


# Of "add", "arm", "strike" and "rename".
def fault_of_member(shape, deed):
    word = deed[0]
    if word == "strike" or word == "rename":
        if member_of(shape, deed[2]) is None:
            return "number"
        return "name" if word == "rename" and is_name_beside(shape, deed[2], deed[3]) else None
    number = deed[2][0]
    if member_of(shape, number) is not None or number in shape[2]:
        return "number"
    if is_name_beside(shape, number, deed[2][1]):
        return "name"
    return "must" if word == "add" and not may_be_left_out(deed[2]) else None


# Whether a field or an arm of another number has this name.
def is_name_beside(shape, number, name):
    return any([member[1] == name and member[0] != number for member in shape[1]])


def is_narrower(shape, other_shape):
    sort = shape[0]
    if other_shape[0] != sort:
        return True
    if sort == "whole":
        return other_shape[1] > shape[1] or other_shape[2] < shape[2]
    if sort == "text":
        return other_shape[1] < shape[1]
    return other_shape[1] != shape[1] or other_shape[2] < shape[2]


# Of a deed with no fault.
def shape_behind(shape, deed):
    word = deed[0]
    if word == "widen" or word == "form":
        return deed[2]
    if word == "open":
        return shape[:3] + (True,)
    members = list(shape[1])
    struck = list(shape[2])
    if word == "strike":
        members = [member for member in members if member[0] != deed[2]]
        struck.append(deed[2])
    elif word == "rename":
        members = [renamed(member, deed[2], deed[3]) for member in members]
    else:
        members.append(deed[2])
    # No two have one number: so they are sorted by their numbers alone.
    return (shape[0], tuple(sorted(members, key=number_of)), tuple(sorted(struck))) + shape[3:]


def number_of(member):
    return member[0]


def renamed(member, number, name):
    return (number, name) + member[2:] if member[0] == number else member
