"""Points 40 to 51 read row by row, as slow as it likes: what the tests hold the program against."""

from makes.alike import tells_alike
from makes.errors import BadItem
from makes.reading import read
from makes.values import is_own
from makes.writing import written
from tests.values_plainly import ITEM_SORTS, alike_plainly


def is_read(make, other, value, name=None, other_name=None):
    """Whether the own value, written, is read by the other make's root (or form) to a value that tells alike."""
    name = make[0] if name is None else name
    other_name = other[0] if other_name is None else other_name
    try:
        told = read(other, other_name, written(make, name, value))
    except BadItem:
        return False
    return tells_alike(make, name, value, other, other_name, told)


def is_kept(make, other, value):
    """Whether it is so read, and comes back."""
    if not is_read(make, other, value):
        return False
    item = written(other, other[0], read(other, other[0], written(make, make[0], value)))
    try:
        return read(make, make[0], item) == value
    except BadItem:
        return False


def numbers_of(shape):
    return range(0, 2) if shape[0] == "truth" else range(shape[1], shape[2] + 1)


def by_number(shape):
    return {member[0]: member for member in shape[1]}


def right_pair_plainly(make, other, pairs, empties, pair):
    w = make[1][pair[0]]
    r = other[1][pair[1]]

    def hold(of, other_of):
        return of in empties or (of, other_of) in pairs

    if {w[0], r[0]} <= {"whole", "truth"}:
        return all(n in numbers_of(r) for n in [min(numbers_of(w)), max(numbers_of(w))])
    if w[0] != r[0]:
        return False
    if w[0] == "text":
        return not w[1] > r[1]
    if w[0] in ("row", "map"):
        return w[1] in empties or w[2] == 0 or (w[2] <= r[2] and hold(w[1], r[1]))
    ws = by_number(w)
    rs = by_number(r)
    if w[0] == "choice":
        return all(arm[2] in empties or (number in rs and hold(arm[2], rs[number][2])) or (r[3] and number not in rs)
                   for number, arm in ws.items())
    for number in set(ws) & set(rs):
        if not hold(ws[number][2], rs[number][2]):
            return False
        if ws[number][3]:
            if not rs[number][3] or not alike_plainly(make, ws[number][2], ws[number][3][0],
                                                      other, rs[number][2], rs[number][3][0]):
                return False
    return all(rs[number][3] for number in set(rs) - set(ws))


def right_empty_plainly(make, empties, name):
    shape = make[1][name]
    if shape[0] == "record":
        return any(default == () and of in empties for number, field, of, default in shape[1])
    if shape[0] == "choice":
        return {arm[2] for arm in shape[1]} <= set(empties)
    return False


def lets_read_plainly(make, other, paper):
    pairs, empties = paper
    if make[0] not in empties and (make[0], other[0]) not in pairs:
        return False
    return (all(right_pair_plainly(make, other, pairs, empties, pair) for pair in pairs)
            and all(right_empty_plainly(make, empties, name) for name in empties))


def lets_keep_plainly(make, other, paper):
    return lets_read_plainly(make, other, paper) and all(keeps_pair(make, other, paper, w, r) for w, r in paper[0])


def keeps_pair(make, other, paper, w, r):
    if ITEM_SORTS[make[1][w][0]] != "rec":
        return True
    ws = by_number(make[1][w])
    rs = by_number(other[1][r])
    for number in set(ws) & set(rs):
        of = ws[number][2]
        if ws[number][3] or not rs[number][3] or of in paper[1]:
            continue
        default = rs[number][3][0]
        shape = make[1][of]
        if shape[0] in ("whole", "truth") and default not in numbers_of(shape):
            continue
        if shape[0] == "text" and isinstance(default, str) and shape[1] < len(default):
            continue
        return False
    return True


def subsets(things):
    told = [()]
    for thing in things:
        told = told + [some + (thing,) for some in told]
    return told


def empties_plainly(make):
    """All that is in any set of forms each of which is right by it: so the greatest such set."""
    told = set()
    for some in subsets(sorted(make[1])):
        if all(right_empty_plainly(make, some, name) for name in some):
            told |= set(some)
    return tuple(sorted(told))


def least_counts(make, most=120):
    """For each form the least count of items of an own value, by trying 1, 2, 3 and so on; None where there is none."""
    having = {name: [] for name in make[1]}
    for count in range(1, most + 1):
        for name in make[1]:
            if has_count(make, name, count, having):
                having[name].append(count)
    return {name: having[name][0] if having[name] else None for name in make[1]}


def has_count(make, name, count, having):
    shape = make[1][name]
    if shape[0] == "choice":
        return any(count - 1 in having[arm[2]] for arm in shape[1])
    if shape[0] == "record":
        reach = {1}
        for field in shape[1]:
            more = [0] if field[3] else having[field[2]]
            reach = {one + other for one in reach for other in more if one + other <= count}
        return count in reach
    return count == 1


def struck(make, other, pairs, empties, keeping=False):
    """What is left of pairs and empties when all that isn't right by what is left is struck, till all is."""
    pairs = set(pairs)
    empties = set(empties)
    while True:
        wrong = {pair for pair in pairs if not right_pair_plainly(make, other, pairs, empties, pair)
                 or (keeping and not keeps_pair(make, other, (pairs, empties), pair[0], pair[1]))}
        none = {name for name in empties if not right_empty_plainly(make, empties, name)}
        if not wrong and not none:
            return (tuple(sorted(pairs)), tuple(sorted(empties)))
        pairs -= wrong
        empties -= none


def all_pairs(make, other):
    return [(w, r) for w in sorted(make[1]) for r in sorted(other[1])]


def lessened_plainly(make, other, paper):
    """The least set that has what the roots lead to and all that its own lead to, row by row of point 51."""
    pairs = set()
    empties = set()

    def lead(of, other_of):
        if of in paper[1]:
            empties.add(of)
        elif other_of is not None:
            pairs.add((of, other_of))

    lead(make[0], other[0])
    many = None
    while many != (len(pairs), len(empties)):
        many = (len(pairs), len(empties))
        for w, r in sorted(pairs):
            shape = make[1][w]
            other_shape = other[1][r]
            if shape[0] in ("row", "map") and shape[2] != 0:
                lead(shape[1], other_shape[1])
            if shape[0] in ("record", "choice"):
                ofs = {number: member[2] for number, member in by_number(other_shape).items()}
                for number, member in by_number(shape).items():
                    if shape[0] == "choice" or number in ofs:
                        lead(member[2], ofs.get(number))
        for name in sorted(empties):
            for member in make[1][name][1]:
                if (len(member) == 3 or member[3] == ()) and member[2] in paper[1]:
                    empties.add(member[2])
    return (tuple(sorted(pairs)), tuple(sorted(empties)))


def knows_plainly(make, other, paper):
    """Point 70: in each pair the one form is known."""
    for w, r in paper[0]:
        shape, other_shape = make[1][w], other[1][r]
        if (shape[0], other_shape[0]) not in (("record", "record"), ("choice", "choice")):
            continue
        for number in set(by_number(shape)) - set(by_number(other_shape)):
            member = by_number(shape)[number]
            of = make[1][member[2]]
            if shape[0] == "choice":
                if member[2] not in paper[1]:
                    return False
            elif not member[3] or not (
                    (of[0] == "whole" and of[1] == of[2]) or (of[0] == "text" and of[1] == 0)
                    or (of[0] in ("row", "map") and (of[2] == 0 or of[1] in paper[1]))):
                return False
    return True


def is_turned(make, other, value):
    """Whether it is read to an own value that tells alike, and comes back."""
    return is_kept(make, other, value) and is_own(other, other[0], read(other, other[0], written(make, make[0], value)))


def turn_paper_plainly(make, other):
    """All that is left when pairs that aren't right, kept and known are struck, with all empty forms."""
    empties = empties_plainly(make)
    pairs = set(all_pairs(make, other))
    while True:
        left = {pair for pair in pairs if right_pair_plainly(make, other, pairs, empties, pair)
                and keeps_pair(make, other, (pairs, empties), pair[0], pair[1])
                and knows_plainly(make, other, ((pair,), empties))}
        if left == pairs:
            return (tuple(sorted(pairs)), empties)
        pairs = left
