"""A store: files that stand by makes, and the programs that read and write them."""

from makes.errors import NoFile, NoMove, NoValue
from makes.files import kept, taken
from makes.fleets import faults, moved
from makes.tables import lets_table
from makes.values import is_own


class Store:
    def __init__(self, makes, table):
        lets_table(makes, table)
        self.makes = dict([(name, (make[0], dict(make[1]))) for name, make in makes.items()])
        self.table = dict(table)
        # Tuples (name, reads, writes), rising.
        self.programs = []
        # For each file a tuple of the make's name and the bytes.
        self.standing = []

    def come(self, name, reads, writes):
        if name in [program[0] for program in self.programs]:
            raise NoMove("move")
        if reads not in self.makes or writes not in self.makes:
            raise NoMove("move")
        programs = sorted(self.programs + [(name, reads, writes)])
        if faults(self.fleet_with(programs), self.table):
            raise NoMove("fault")
        self.programs = programs

    def go(self, name):
        gone = self.program(name)
        self.programs = [program for program in self.programs if program != gone]

    def program(self, name):
        for program in self.programs:
            if program[0] == name:
                return program
        raise NoMove("move")

    def put(self, name, value):
        writes = self.program(name)[2]
        make = self.makes[writes]
        if not is_own(make, make[0], value):
            raise NoValue("no own value of the make that the program writes")
        self.standing.append((writes, kept(make, value)))
        return len(self.standing) - 1

    def read(self, name, number):
        reads = self.program(name)[1]
        return taken(self.makes[reads], self.file(number))

    def move(self, thing):
        behind = moved(self.fleet(), self.table, thing)
        if thing[0] == "turn":
            self.standing = [self.told_anew(standing, thing[1], thing[2]) for standing in self.standing]
        self.programs = list(behind[1])

    def told_anew(self, standing, one, other):
        if standing[0] != one:
            return standing
        make = self.makes[other]
        return (other, kept(make, taken(make, standing[1])))

    def fleet(self):
        return self.fleet_with(self.programs)

    def fleet_with(self, programs):
        names = [program[2] for program in programs] + [standing[0] for standing in self.standing]
        return (tuple(sorted(set(names))), tuple(programs))

    def file(self, number):
        return self.at_number(number)[1]

    def make_at(self, number):
        return self.at_number(number)[0]

    def at_number(self, number):
        if not 0 <= number < len(self.standing):
            raise NoFile(number)
        return self.standing[number]

    def many(self):
        return len(self.standing)
