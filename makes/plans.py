"""Plans: moves that lead from one fleet to another, or fleets that no move leaves, which show that there are none."""

from makes.errors import NoMove
from makes.fleets import faults, fleet_behind, is_fleet_of, moved, moves, names_of
from makes.items import rises


def plan(fleet, goal, table):
    ways = {fleet: []}
    level = [fleet]
    while level and goal not in ways:
        level = level_behind(level, ways, table)
    if goal in ways:
        return ("moves", ways[goal])
    return ("closed", sorted(ways))


# All fleets that are one move more away; ways has the moves that lead to each fleet come to so far.
def level_behind(level, ways, table):
    behind = []
    for fleet in level:
        for move in moves(fleet, table):
            other = fleet_behind(fleet, move)
            if other not in ways:
                ways[other] = ways[fleet] + [move]
                behind.append(other)
    return behind


def lets_plan(fleet, goal, table, thing):
    if not isinstance(thing, tuple) or len(thing) != 2 or not isinstance(thing[1], list):
        return False
    if thing[0] == "moves":
        return lead_to(fleet, goal, table, thing[1])
    return thing[0] == "closed" and are_closed(fleet, goal, table, thing[1])


def lead_to(fleet, goal, table, things):
    for thing in things:
        try:
            fleet = moved(fleet, table, thing)
        except NoMove:
            return False
    return fleet == goal


def are_closed(fleet, goal, table, things):
    names = names_of(fleet, table)
    if not all([is_fleet_of(names, thing) and not faults(thing, table) for thing in things]) or not rises(things):
        return False
    within = dict([(thing, True) for thing in things])
    if fleet not in within or goal in within:
        return False
    return not any([is_left(thing, table, within) for thing in things])


def is_left(fleet, table, within):
    return any([fleet_behind(fleet, move) not in within for move in moves(fleet, table)])
