"""Whether one make's files are read, or kept, by another make: a paper, or a value that shows that there is none."""

from makes.checker import are_left_out_alike, may_go, may_lack, value_as
from makes.empties import empty_forms, least_value
from makes.forms import form_of
from makes.items import LETTERS
from makes.shapes import bounds_of, item_sort, may_be_left_out, member_of


def reads(make, other):
    return decided(make, other, False, False)


def keeps(make, other):
    return decided(make, other, True, False)


# Keeping asks that what was read comes back; knowing, that nothing is read as what the other make doesn't know.
def decided(make, other, keeping, knowing):
    search = Search(make, other, keeping, knowing)
    left = all_pairs(make, other)
    many = len(left) + 1
    while len(left) < many:
        many = len(left)
        search.strike(left)
        left = [pair for pair in left if pair not in search.shown]
    roots = (make[0], other[0])
    if roots in search.shown:
        return ("value", search.shown[roots])
    return ("paper", (tuple(left), empty_forms(make)))


def all_pairs(make, other):
    empties = empty_forms(make)
    pairs = []
    for name in sorted(make[1]):
        if name not in empties:
            pairs.extend([(name, other_name) for other_name in sorted(other[1])])
    return pairs


class Search:
    def __init__(self, make, other, keeping, knowing):
        self.make = make
        self.other = other
        self.keeping = keeping
        self.knowing = knowing
        self.leasts = dict([(name, least_value(make, name)) for name in make[1]])
        # For each pair struck: an own value of its first form that shows why.
        self.shown = {}

    # Those that aren't right by what was left ahead of this call.
    def strike(self, pairs):
        found = [(pair, self.value_against(pair)) for pair in pairs]
        self.shown.update(dict([(pair, value) for pair, value in found if value is not None]))

    # An own value of the first form that the second one doesn't read, or keep; None where the pair is right by what is
    # left. (All that stands behind tells likewise.) Such a value holds at most one that was shown ahead, and least ones
    # beside it: so it can't grow beyond what may be told.
    def value_against(self, pair):
        shape = form_of(self.make, pair[0])
        other_shape = form_of(self.other, pair[1])
        sort = item_sort(shape)
        if item_sort(other_shape) != sort:
            return self.leasts[pair[0]]
        if sort == "whole":
            return number_against(shape, other_shape)
        if sort == "text":
            return "a" * (other_shape[1] + 1) if shape[1] > other_shape[1] else None
        if sort == "rec":
            return self.record_against(self.leasts[pair[0]], shape, other_shape)
        if sort == "arm":
            return self.choice_against(shape, other_shape)
        return self.parts_against(shape, other_shape)

    def parts_against(self, shape, other_shape):
        least = self.leasts[shape[1]]
        if shape[2] == 0 or least is None:
            return None
        if shape[2] > other_shape[2]:
            return parts_as(shape, [least] * (other_shape[2] + 1))
        part = self.shown.get((shape[1], other_shape[1]))
        return None if part is None else parts_as(shape, [part])

    def record_against(self, least, shape, other_shape):
        if not may_lack(shape, other_shape):
            return least
        for place, field in enumerate(shape[1]):
            other_field = member_of(other_shape, field[0])
            if other_field is None:
                part = self.unknown_against(field)
            elif not are_left_out_alike(self.make, self.other, field, other_field):
                return least
            else:
                part = self.field_against(field, other_field)
            if part is not None:
                return (least[0][:place] + (part,) + least[0][place + 1:], ())
        return None

    # Of a field that the other record hasn't: what is written there, where that is asked.
    def unknown_against(self, field):
        if not self.knowing:
            return None
        return self.beside_default(field) if may_be_left_out(field) else self.leasts[field[2]]

    # A value of the field's form that is not its default; None where there is no other one.
    def beside_default(self, field):
        shape = form_of(self.make, field[2])
        if shape[0] == "row" or shape[0] == "map":
            least = self.leasts[shape[1]]
            return None if shape[2] == 0 or least is None else parts_as(shape, [least])
        return single_beside(shape, field[3][0])

    def field_against(self, field, other_field):
        part = self.shown.get((field[2], other_field[2]))
        if part is not None or not self.keeping or not may_go(field, other_field):
            return part
        shape = form_of(self.make, field[2])
        # Of forms of unlike sorts there is no such value, and their pair is struck by itself.
        if item_sort(shape) != item_sort(form_of(self.other, other_field[2])):
            return None
        return value_as(shape, other_field[3][0])

    def choice_against(self, shape, other_shape):
        for arm in shape[1]:
            part = self.arm_against(arm, other_shape)
            if part is not None:
                return ("arm", arm[0], part)
        return None

    def arm_against(self, arm, other_shape):
        other_arm = member_of(other_shape, arm[0])
        if other_arm is not None:
            return self.shown.get((arm[2], other_arm[2]))
        return None if other_shape[3] and not self.knowing else self.leasts[arm[2]]


# The value of a row or a map form with these parts.
def parts_as(shape, parts):
    return tuple(zip(LETTERS, parts)) if shape[0] == "map" else tuple(parts)


# Of a whole, truth or text form a value that is not this one; None where there is no other one.
def single_beside(shape, default):
    if shape[0] == "text":
        return "" if default != "" else value_as(shape, "a")
    for n in bounds_of(shape):
        if n != default:
            return value_as(shape, n)
    return None


def number_against(shape, other_shape):
    other_bounds = bounds_of(other_shape)
    for n in bounds_of(shape):
        if not other_bounds[0] <= n <= other_bounds[1]:
            return value_as(shape, n)
    return None
