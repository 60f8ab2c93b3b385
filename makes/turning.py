"""Whether one make turns into another: its files are told anew by the other, with nothing that it does not know."""

from makes.alike import tells_alike
from makes.checker import lets_keep, lets_read
from makes.deciding import decided
from makes.errors import BadItem
from makes.forms import form_of
from makes.reading import read
from makes.shapes import may_be_left_out, member_of
from makes.values import is_own
from makes.writing import written


def turns(make, other):
    return decided(make, other, True, True)


def lets_turn(make, other, thing):
    if not is_answer(make, thing):
        return False
    if thing[0] == "paper":
        return lets_keep(make, other, thing[1]) and knows(make, other, thing[1])
    return not is_turned(make, other, thing[1])


def lets_answer(make, other, thing):
    if not is_answer(make, thing):
        return False
    if thing[0] == "paper":
        return lets_read(make, other, thing[1])
    return not is_read(make, other, thing[1])


# Whether it is a right answer if only the paper, or the own value, shows what it has to.
def is_answer(make, thing):
    if not isinstance(thing, tuple) or len(thing) != 2:
        return False
    return thing[0] == "paper" or (thing[0] == "value" and is_own(make, make[0], thing[1]))


def knows(make, other, paper):
    return all([knows_form(make, paper, form_of(make, w), form_of(other, r)) for w, r in paper[0]])


def knows_form(make, paper, shape, other_shape):
    if shape[0] != other_shape[0] or shape[0] not in ("record", "choice"):
        return True
    unknown = [member for member in shape[1] if member_of(other_shape, member[0]) is None]
    if shape[0] == "choice":
        return all([arm[2] in paper[1] for arm in unknown])
    return all([is_never_written(make, paper, field) for field in unknown])


# Whether all that the field can be is its default, which is left out.
def is_never_written(make, paper, field):
    if not may_be_left_out(field):
        return False
    shape = form_of(make, field[2])
    if shape[0] == "whole":
        return shape[1] == shape[2]
    if shape[0] == "text":
        return shape[1] == 0
    return shape[0] != "truth" and (shape[2] == 0 or shape[1] in paper[1])


def is_read(make, other, value):
    told = told_by(other, written(make, make[0], value))
    return tells_alike(make, make[0], value, other, other[0], told)


# Whether it is read to an own value that tells alike, and comes back.
def is_turned(make, other, value):
    told = told_by(other, written(make, make[0], value))
    if not is_own(other, other[0], told) or not tells_alike(make, make[0], value, other, other[0], told):
        return False
    return told_by(make, written(other, other[0], told)) == value


# What the make's root reads; None, which is no value of any form, where it reads nothing.
def told_by(make, item):
    try:
        return read(make, make[0], item)
    except BadItem:
        return None
