"""Points 72 to 76 read row by row, as slow as it likes, and makes, tables and fleets to ask about."""

import itertools

from makes.items import is_name
from tests.samples import choice, record

TRUTH = ("truth",)
# What "narrow" writes "wide" reads, and turns into; "more" and "wide" read one another, and "wide" turns into "more";
# "text" reads nothing but itself.
MAKES = {
    "narrow": ("a", {"a": record("n"), "n": ("whole", 0, 5)}),
    "wide": ("a", {"a": record("n"), "n": ("whole", 0, 9)}),
    "more": ("a", {"a": record("n", left_out=[("t", True)]), "n": ("whole", 0, 9), "t": TRUTH}),
    "may": ("a", {"a": record(left_out=[("n", 3)]), "n": ("whole", 0, 9)}),
    "arms": ("b", {"b": choice("t", "t"), "t": TRUTH}),
    "broad": ("b", {"b": choice("t", wide=True), "t": TRUTH}),
    "text": ("s", {"s": ("text", 3)}),
}
SAME = ("a", {"a": ("row", "t", 3), "t": TRUTH})


def some_makes(*names):
    """By the letters a, b and c."""
    return {letter: MAKES[name] for letter, name in zip("abc", names)}


def forged(names, reading, turning):
    """A table of papers where told, for what looks at no paper."""
    answer = {True: ("paper", ((), ())), False: ("value", 0)}
    return {(one, other): (answer[(one, other) in reading], answer[(one, other) in turning])
            for one in names for other in names if one != other}


def forged_tables(rng, many, names="abc"):
    pairs = [(one, other) for one in names for other in names if one != other]
    for turn in range(many):
        share = rng.choice([0.3, 0.6, 0.8, 1])
        reading = [pair for pair in pairs if rng.random() < share]
        yield forged(names, reading, [pair for pair in reading if rng.random() < share])


def is_fleet_plainly(names, thing):
    if type(thing) is not tuple or len(thing) != 2 or not type(thing[0]) is type(thing[1]) is tuple:
        return False
    files, programs = thing
    if any(type(name) is not str or name not in names for name in files) or list(files) != sorted(set(files)):
        return False
    for program in programs:
        if type(program) is not tuple or len(program) != 3 or any(type(word) is not str for word in program):
            return False
        if not is_name(program[0]) or program[1] not in names or program[2] not in files:
            return False
    return [program[0] for program in programs] == sorted({program[0] for program in programs})


def faults_plainly(fleet, table):
    return sorted((name, make) for name, reads, writes in fleet[1] for make in fleet[0]
                  if reads != make and table[(make, reads)][0][0] != "paper")


def behind_plainly(fleet, table, names, move):
    """The fleet behind a move, or the word by which it is refused."""
    if type(move) is not tuple or len(move) != 3 or not all(type(word) is str for word in move):
        return "move"
    word, one, other = move
    files = set(fleet[0])
    programs = {name: (reads, writes) for name, reads, writes in fleet[1]}
    if other not in names:
        return "move"
    if word == "turn":
        if one == other or one not in files or one in [writes for reads, writes in programs.values()]:
            return "move"
        if table[(one, other)][1][0] != "paper":
            return "move"
        files = files - {one} | {other}
    elif word in ("read", "write"):
        if one not in programs or programs[one][["read", "write"].index(word)] == other:
            return "move"
        if word == "read":
            programs[one] = (other, programs[one][1])
        else:
            programs[one] = (programs[one][0], other)
            files.add(other)
    else:
        return "move"
    behind = (tuple(sorted(files)), tuple((name,) + programs[name] for name in sorted(programs)))
    return "fault" if faults_plainly(behind, table) else behind


def moves_plainly(fleet, table, names):
    told = []
    for word in ["read", "write", "turn"]:
        for one in list(names) + [program[0] for program in fleet[1]]:
            for other in names:
                if not isinstance(behind_plainly(fleet, table, names, (word, one, other)), str):
                    told.append((word, one, other))
    return sorted(set(told))


def all_fleets(names, programs):
    """All fleets of these makes with these programs, right ones and others."""
    names = sorted(names)
    for many in range(len(names) + 1):
        for files in itertools.combinations(names, many):
            for ways in itertools.product(itertools.product(names, files), repeat=len(programs)):
                yield (files, tuple((name,) + way for name, way in zip(sorted(programs), ways)))


def distances(fleet, table, names):
    """Of each fleet that is come to how many moves it takes."""
    told = {fleet: 0}
    steps = 0
    while steps in told.values():
        for one in [one for one in told if told[one] == steps]:
            for move in moves_plainly(one, table, names):
                told.setdefault(behind_plainly(one, table, names, move), steps + 1)
        steps += 1
    return told
