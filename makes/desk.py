"""A desk: a store that is told rows of text, and answers each with a text."""

from makes.errors import NoMove, NoRow
from makes.files import kept, taken
from makes.fleets import is_fleet, moves
from makes.maketexts import read_make
from makes.plans import plan
from makes.rows import read_row, shown_bytes, shown_fleet, shown_moves
from makes.store import Store
from makes.tables import table_of


class Desk:
    def __init__(self, rows):
        self.makes = dict([(name, read_make(texts)) for name, texts in rows.items()])
        self.table = table_of(self.makes)
        self.store = Store(self.makes, self.table)

    def say(self, row):
        words = read_row(row)
        if words is None:
            raise NoRow("no row of a desk")
        if words[0] == "come":
            self.store.come(words[1], words[2], words[3])
            return "ok"
        if words[0] == "go":
            self.store.go(words[1])
            return "ok"
        if words[0] == "move":
            self.store.move(tuple(words[1:]))
            return "ok"
        return self.told_of(words)

    # Of rows that do more than to tell that all went well.
    def told_of(self, words):
        if words[0] == "put":
            return self.put_bytes(words[1], words[2])
        if words[0] == "read":
            return self.bytes_read(words[1], words[2])
        if words[0] == "file":
            make = self.store.make_at(words[1])
            told = shown_bytes(self.store.file(words[1]))
            return f"{make} {told}"
        if words[0] == "moves":
            return shown_moves(moves(self.store.fleet(), self.table))
        if words[0] == "plan":
            return self.plan_to(words[1])
        return shown_fleet(self.store.fleet())

    def put_bytes(self, name, file):
        writes = self.store.program(name)[2]
        return str(self.store.put(name, taken(self.makes[writes], file)))

    def bytes_read(self, name, number):
        value = self.store.read(name, number)
        reads = self.store.program(name)[1]
        return shown_bytes(kept(self.makes[reads], value))

    def plan_to(self, goal):
        fleet = self.store.fleet()
        if not is_fleet(self.makes, goal) or programs_of(goal) != programs_of(fleet):
            raise NoMove("move")
        told = plan(fleet, goal, self.table)
        return "closed" if told[0] == "closed" else shown_moves(told[1])


def programs_of(fleet):
    return [program[0] for program in fleet[1]]
