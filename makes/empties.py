"""Empty forms, which have no own value, and the least own values of the others."""

from makes.forms import form_of
from makes.shapes import may_be_left_out


def empty_forms(make):
    leasts = leasts_of(make)
    return tuple([name for name in sorted(make[1]) if leasts[name] is None])


def least_value(make, name):
    least = leasts_of(make)[name]
    return None if least is None else least[1]


# For each form a tuple (count of items, own value) with the fewest items, or None.
# No form stands within itself in a least value: so as many turns as there are forms find them all.
def leasts_of(make):
    leasts = dict([(name, None) for name in make[1]])
    for turn in range(len(make[1])):
        leasts = dict([(name, least_by(form_of(make, name), leasts)) for name in make[1]])
    return leasts


# The least one that is made of those found so far.
def least_by(shape, leasts):
    sort = shape[0]
    if sort == "whole":
        return (1, shape[1])
    if sort == "truth":
        return (1, False)
    if sort == "text":
        return (1, "")
    if sort == "record":
        return least_record(shape[1], leasts)
    if sort == "choice":
        return least_choice(shape[1], leasts)
    return (1, ())


def least_record(fields, leasts):
    parts = [(0, field[3][0]) if may_be_left_out(field) else leasts[field[2]] for field in fields]
    if None in parts:
        return None
    return (1 + sum([part[0] for part in parts]), (tuple([part[1] for part in parts]), ()))


def least_choice(arms, leasts):
    counts = [(leasts[arm[2]][0], arm[0], arm[2]) for arm in arms if leasts[arm[2]] is not None]
    if len(counts) == 0:
        return None
    least = min(counts)
    return (1 + least[0], ("arm", least[1], leasts[least[2]][1]))
