"""Rows of makes that follow one another, and the lives of the numbers in them."""

from makes.forms import form_of
from makes.shapes import member_of


def cannot_follow(make, other):
    if make[0] != other[0]:
        return "root"
    for name in sorted(make[1]):
        word = break_between(form_of(make, name), form_of(other, name))
        if word is not None:
            return word
    return None


def first_wrong(makes):
    for place in range(1, len(makes)):
        word = cannot_follow(makes[place - 1], makes[place])
        if word is not None:
            return (place, word)
    return None


def number_lives(makes, form, number):
    return [life_in(form_of(make, form), number) for make in makes]


# The first word by which a shape can't follow the one ahead, or None.
def break_between(shape, later):
    if later is None or later[0] != shape[0]:
        return "form"
    if shape[0] != "record" and shape[0] != "choice":
        return None
    if any([life_in(later, member[0]) == "none" for member in shape[1]]):
        return "lost"
    if any([number not in later[2] for number in shape[2]]):
        return "back"
    if any([is_turned(member, member_of(later, member[0])) for member in shape[1]]):
        return "turned"
    return "shut" if shape[0] == "choice" and shape[3] and not later[3] else None


def is_turned(member, later_member):
    return later_member is not None and later_member[2] != member[2]


def life_in(shape, number):
    if shape is None or shape[0] not in ("record", "choice"):
        return "none"
    if member_of(shape, number) is not None:
        return "there"
    return "struck" if number in shape[2] else "none"
