"""The file of an item, and the item of a file."""

from makes.errors import BadByte
from makes.items import DEEPEST, GREATEST_NUMBER, GREATEST_WHOLE, LETTERS, LONGEST_NAME, LONGEST_TEXT, SIGNS
from makes.longs import long_of

# The head of an item is the place of its sort here.
SORTS = ("whole", "text", "row", "map", "rec", "arm")
GREATEST_SIZE = 1_000_000
# What the first label in a room has to be above.
BELOW_LABELS = {"row": None, "map": "", "rec": 0}


def packed(item):
    # Built from the last byte on, as a size is known only when all that stands behind it is there.
    backwards = []
    pack_item(backwards, item)
    return tuple(reversed(backwards))


def pack_item(backwards, item):
    sort = item[0]
    if sort == "whole":
        pack_bytes(backwards, long_of(folded(item[1])))
    elif sort == "text":
        pack_signs(backwards, item[1])
    elif sort == "arm":
        pack_item(backwards, item[2])
        pack_bytes(backwards, long_of(item[1]))
    else:
        behind = len(backwards)
        for part in reversed(item[1]):
            pack_item(backwards, part if sort == "row" else part[1])
            pack_label(backwards, sort, part)
        pack_bytes(backwards, long_of(len(backwards) - behind))
    backwards.append(SORTS.index(sort))


def pack_label(backwards, sort, part):
    if sort == "map":
        pack_signs(backwards, part[0])
    elif sort == "rec":
        pack_bytes(backwards, long_of(part[0]))


def pack_signs(backwards, text):
    pack_bytes(backwards, [ord(sign) for sign in text])
    pack_bytes(backwards, long_of(len(text)))


def pack_bytes(backwards, codes):
    backwards.extend(list(reversed(codes)))


def folded(n):
    return 2 * n if n >= 0 else -2 * n - 1


def unfolded(n):
    return n // 2 if n % 2 == 0 else -(n + 1) // 2


# Where reading has come to, and the end of the room that the next byte stands in.
class Reader:
    def __init__(self, source, at, end):
        self.source = source
        self.at = at
        self.end = end

    def next_byte(self):
        if self.at == self.end:
            raise BadByte(self.end)
        self.at = self.at + 1
        return self.source[self.at - 1]

    # Whether the byte that was read last may stand.
    def must(self, right):
        if not right:
            raise BadByte(self.at - 1)

    def next_long(self, most):
        n = 0
        unit = 1
        more = True
        while more:
            code = self.next_byte()
            n = n + code % 128 * unit
            self.must(n <= most and (code > 0 or unit == 1))
            more = code >= 128
            # A unit above the most is great enough: any number of them is above it, too.
            if unit <= most:
                unit = unit * 128
        return n

    # Told is the end of the room around, to go back to.
    def enter_room(self):
        around = self.end
        size = self.next_long(GREATEST_SIZE)
        self.must(size <= around - self.at)
        self.end = self.at + size
        return around

    def leave_room(self, around):
        self.end = around


def unpacked(file):
    return unpacked_between(file, 0, len(file))


def unpacked_between(file, begin, end):
    reader = Reader(file, begin, end)
    item = next_item(reader, 1)
    if reader.at < end:
        raise BadByte(reader.at)
    return item


def next_item(reader, deep):
    head = reader.next_byte()
    reader.must(head < len(SORTS) and deep <= DEEPEST)
    sort = SORTS[head]
    if sort == "whole":
        return (sort, unfolded(reader.next_long(2 * GREATEST_WHOLE)))
    if sort == "text":
        return (sort, next_text(reader))
    if sort == "arm":
        number = next_number(reader, 0)
        return (sort, number, next_item(reader, deep + 1))
    parts = []
    label = BELOW_LABELS[sort]
    around = reader.enter_room()
    while reader.at < reader.end:
        label = next_label(reader, sort, label)
        inner = next_item(reader, deep + 1)
        parts.append(inner if sort == "row" else (label, inner))
    reader.leave_room(around)
    return (sort, tuple(parts))


def next_text(reader):
    signs = []
    for place in range(reader.next_long(LONGEST_TEXT)):
        signs.append(next_sign(reader))
    return "".join(signs)


def next_sign(reader):
    code = reader.next_byte()
    reader.must(32 <= code <= 126 and code != 37)
    # SIGNS has no place for code 37.
    return SIGNS[code - 32] if code < 37 else SIGNS[code - 33]


def next_letter(reader):
    code = reader.next_byte()
    reader.must(97 <= code <= 122)
    return LETTERS[code - 97]


def next_label(reader, sort, last):
    if sort == "map":
        return next_key(reader, last)
    if sort == "rec":
        return next_number(reader, last)
    return None


def next_number(reader, last):
    number = reader.next_long(GREATEST_NUMBER)
    reader.must(number > last)
    return number


def next_key(reader, last):
    many = reader.next_long(LONGEST_NAME)
    reader.must(many > 0)
    key = ""
    for place in range(many):
        key = key + next_letter(reader)
    reader.must(key > last)
    return key
