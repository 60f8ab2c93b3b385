"""The rows that a desk is told, and what it tells, as texts."""

from makes.items import is_name
from makes.maketexts import whole_in

# What stands behind the first word of each row, but of "plan".
ROWS = {
    "come": ("name", "name", "name"), "go": ("name",), "move": ("move", "name", "name"), "put": ("name", "bytes"),
    "read": ("name", "number"), "file": ("number",), "moves": (), "fleet": (),
}
MOVES = ("read", "write", "turn")
GREATEST_FILE_NUMBER = 9999
GREATEST_BYTE = 255


# The row's first word and the things behind it, as a list; None of any text that is no row.
def read_row(row):
    words = row.split(" ")
    if words[0] == "plan":
        things = [fleet_in(row[5:])]
    elif words[0] in ROWS and len(ROWS[words[0]]) == len(words) - 1:
        things = [thing_in(kind, word) for kind, word in zip(ROWS[words[0]], words[1:])]
    else:
        return None
    return None if None in things else [words[0]] + things


# From here on None is told of texts that can not be read as what is asked for.


def thing_in(kind, word):
    if kind == "bytes":
        return bytes_in(word)
    if kind == "number":
        return whole_in(word, 0, GREATEST_FILE_NUMBER)
    is_right = word in MOVES if kind == "move" else is_name(word)
    return word if is_right else None


def bytes_in(text):
    told = [whole_in(word, 0, GREATEST_BYTE) for word in text.split(".")]
    return None if None in told else tuple(told)


# What is read need not be a fleet: looked at are the words alone.
def fleet_in(text):
    parts = text.split(" / ")
    files = [] if parts[0] == "-" else parts[0].split(" ")
    programs = [tuple(part.split(" ")) for part in parts[1:]]
    if not all([is_name(name) for name in files]) or not all([are_three_names(words) for words in programs]):
        return None
    return (tuple(files), tuple(programs))


def are_three_names(words):
    return len(words) == 3 and all([is_name(word) for word in words])


def shown_bytes(file):
    return ".".join([str(byte) for byte in file])


def shown_moves(moves):
    return "; ".join([" ".join(move) for move in moves]) if moves else "-"


def shown_fleet(fleet):
    files = " ".join(fleet[0]) if fleet[0] else "-"
    return " / ".join([files] + [" ".join(program) for program in fleet[1]])
