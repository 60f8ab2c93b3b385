"""Tables of makes: of each two of them whether the other reads the one's files, and whether the one turns into it."""

from makes.deciding import reads
from makes.errors import NoTable
from makes.turning import lets_answer, lets_turn, turns


def table_of(makes):
    return dict([((one, other), answers(makes[one], makes[other])) for one, other in pairs_of(makes)])


def answers(make, other):
    return (reads(make, other), turns(make, other))


# All tuples of two unlike names, rising.
def pairs_of(makes):
    pairs = []
    for one in sorted(makes):
        pairs.extend([(one, other) for other in sorted(makes) if other != one])
    return pairs


def lets_table(makes, thing):
    pairs = pairs_of(makes)
    if not has_pairs(thing, pairs):
        raise NoTable("", "", "shape")
    for one, other in pairs:
        told = thing[(one, other)]
        if not lets_answer(makes[one], makes[other], told[0]):
            raise NoTable(one, other, "read")
        if not lets_turn(makes[one], makes[other], told[1]):
            raise NoTable(one, other, "turn")
    return True


# Whether it is a dict from just these to tuples of two things.
def has_pairs(thing, pairs):
    if not isinstance(thing, dict) or len(thing) != len(pairs) or not all([pair in thing for pair in pairs]):
        return False
    return all([isinstance(told, tuple) and len(told) == 2 for told in thing.values()])
