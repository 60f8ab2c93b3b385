"""Fleets: the makes by which files stand, the programs that read and write them, and the moves from fleet to fleet."""

from makes.errors import NoMove
from makes.items import are_labels, is_name


def is_fleet(makes, thing):
    return is_fleet_of(list(makes), thing)


# Of makes by their names alone.
def is_fleet_of(names, thing):
    if not isinstance(thing, tuple) or len(thing) != 2:
        return False
    files = thing[0]
    programs = thing[1]
    if not isinstance(files, tuple) or not isinstance(programs, tuple) or not are_labels(files, is_name):
        return False
    if not all([name in names for name in files]) or not all([is_program(names, files, part) for part in programs]):
        return False
    return are_labels([program[0] for program in programs], is_name)


def is_program(names, files, thing):
    return isinstance(thing, tuple) and len(thing) == 3 and thing[1] in names and thing[2] in files


def faults(fleet, table):
    found = []
    for program in fleet[1]:
        found.extend([(program[0], make) for make in fleet[0] if not reads_by(table, program[1], make)])
    return found


def reads_by(table, reader, make):
    return reader == make or has_paper(table, make, reader, 0)


# Place 0 of what a table tells is of reading, 1 of turning.
def has_paper(table, one, other, place):
    return table[(one, other)][place][0] == "paper"


def moves(fleet, table):
    return [move for move in all_moves(fleet, table) if not faults(fleet_behind(fleet, move), table)]


def moved(fleet, table, move):
    if move not in all_moves(fleet, table):
        raise NoMove("move")
    behind = fleet_behind(fleet, move)
    if faults(behind, table):
        raise NoMove("fault")
    return behind


# All that are moves, whether they are let or not, sorted.
def all_moves(fleet, table):
    names = names_of(fleet, table)
    found = []
    for program in fleet[1]:
        found.extend([("read", program[0], make) for make in names if make != program[1]])
        found.extend([("write", program[0], make) for make in names if make != program[2]])
    written = [program[2] for program in fleet[1]]
    for one in fleet[0]:
        if one not in written:
            found.extend([("turn", one, other) for other in names if other != one and has_paper(table, one, other, 1)])
    return sorted(found)


# Of one make the table tells no name; but where there is a program, what it writes is in files.
def names_of(fleet, table):
    names = list(fleet[0])
    for pair in table:
        names.extend(pair)
    return sorted(set(names))


def fleet_behind(fleet, move):
    if move[0] == "turn":
        return (with_name([name for name in fleet[0] if name != move[1]], move[2]), fleet[1])
    programs = tuple([program_behind(program, move) for program in fleet[1]])
    if move[0] == "read":
        return (fleet[0], programs)
    return (with_name(list(fleet[0]), move[2]), programs)


def with_name(names, name):
    return tuple(sorted(set(names + [name])))


def program_behind(program, move):
    if program[0] != move[1]:
        return program
    return (program[0], move[2], program[2]) if move[0] == "read" else (program[0], program[1], move[2])
