"""The small checker: whether a paper shows that one make's files are read, or kept, by another make.

It looks at the pairs and the empty forms that the paper tells, each once; it reads no file and searches nothing.
"""

from makes.alike import tells_alike
from makes.forms import form_of, is_form
from makes.items import are_pairs
from makes.shapes import bounds_of, item_sort, may_be_left_out, member_of


def lets_read(make, other, paper):
    if not is_paper(make, other, paper) or not holds(paper, make[0], other[0]):
        return False
    if not all([is_right_empty(make, paper, name) for name in paper[1]]):
        return False
    return all([is_right_pair(make, other, paper, pair) for pair in paper[0]])


def lets_keep(make, other, paper):
    return lets_read(make, other, paper) and all([is_kept_pair(make, other, paper, pair) for pair in paper[0]])


def is_paper(make, other, thing):
    if not isinstance(thing, tuple) or len(thing) != 2 or not are_pairs(thing[0]) or not isinstance(thing[1], tuple):
        return False
    if not all([is_form(make, w) and is_form(other, r) for w, r in thing[0]]):
        return False
    return all([is_form(make, name) for name in thing[1]])


def holds(paper, w, r):
    return (w, r) in paper[0] or w in paper[1]


def is_right_empty(make, paper, name):
    shape = form_of(make, name)
    if shape[0] == "record":
        return any([field[2] in paper[1] and not may_be_left_out(field) for field in shape[1]])
    return shape[0] == "choice" and all([arm[2] in paper[1] for arm in shape[1]])


def is_right_pair(make, other, paper, pair):
    shape = form_of(make, pair[0])
    other_shape = form_of(other, pair[1])
    sort = item_sort(shape)
    if item_sort(other_shape) != sort:
        return False
    if sort == "whole":
        bounds = bounds_of(shape)
        other_bounds = bounds_of(other_shape)
        return other_bounds[0] <= bounds[0] and bounds[1] <= other_bounds[1]
    if sort == "text":
        return shape[1] <= other_shape[1]
    if sort == "rec":
        return are_right_fields(make, other, paper, shape, other_shape)
    if sort == "arm":
        return all([is_right_arm(paper, arm, other_shape) for arm in shape[1]])
    if shape[1] in paper[1] or shape[2] == 0:
        return True
    return shape[2] <= other_shape[2] and holds(paper, shape[1], other_shape[1])


def are_right_fields(make, other, paper, shape, other_shape):
    if not may_lack(shape, other_shape):
        return False
    for field in shape[1]:
        other_field = member_of(other_shape, field[0])
        if other_field is not None:
            if not holds(paper, field[2], other_field[2]) or not are_left_out_alike(make, other, field, other_field):
                return False
    return True


# Whether all fields that the other record alone has may be left out.
def may_lack(shape, other_shape):
    return all([may_be_left_out(field) or member_of(shape, field[0]) is not None for field in other_shape[1]])


# Whether the one field, where it is left out, is read to what tells alike.
def are_left_out_alike(make, other, field, other_field):
    if not may_be_left_out(field):
        return True
    if not may_be_left_out(other_field):
        return False
    return tells_alike(make, field[2], field[3][0], other, other_field[2], other_field[3][0])


def is_right_arm(paper, arm, other_shape):
    other_arm = member_of(other_shape, arm[0])
    if other_arm is None:
        return arm[2] in paper[1] or other_shape[3]
    return holds(paper, arm[2], other_arm[2])


# Of pairs that are right by the paper.
def is_kept_pair(make, other, paper, pair):
    shape = form_of(make, pair[0])
    other_shape = form_of(other, pair[1])
    if shape[0] != "record":
        return True
    return all([is_kept_field(make, paper, field, member_of(other_shape, field[0])) for field in shape[1]])


# Whether the one field is still there, where it must be, when the other make has written what it read.
def is_kept_field(make, paper, field, other_field):
    if other_field is None or not may_go(field, other_field) or field[2] in paper[1]:
        return True
    return value_as(form_of(make, field[2]), other_field[3][0]) is None


def may_go(field, other_field):
    return may_be_left_out(other_field) and not may_be_left_out(field)


# The value of a form that tells what a default of another form of its sort tells; None where it has no such value.
def value_as(shape, default):
    sort = item_sort(shape)
    if sort == "whole":
        bounds = bounds_of(shape)
        n = int(default)
        if not bounds[0] <= n <= bounds[1]:
            return None
        return n == 1 if shape[0] == "truth" else n
    if sort == "text" and len(default) > shape[1]:
        return None
    return default
