"""Point 12 read row by row, as slow as it likes: what the tests hold the program's reading against."""


class Refused(Exception):
    def __init__(self, at):
        super().__init__(at)
        self.at = at


def outcome_plainly(file):
    """("item", item) or ("at", place)."""
    try:
        item, at = item_from(file, 0, len(file), 1)
        if at < len(file):
            raise Refused(at)
    except Refused as refused:
        return ("at", refused.at)
    return ("item", item)


def byte_from(file, at, end):
    if at >= end:
        raise Refused(end)
    return file[at]


def long_from(file, at, end, most):
    figures = []
    while True:
        code = byte_from(file, at, end)
        figures.append(code % 128)
        so_far = sum(figure << (7 * place) for place, figure in enumerate(figures))
        if so_far > most:
            raise Refused(at)
        if code < 128:
            if code == 0 and len(figures) > 1:
                raise Refused(at)
            return so_far, at + 1
        at += 1


def number_from(file, at, end, ahead):
    number, at = long_from(file, at, end, 999)
    if number == 0 or number <= ahead:
        raise Refused(at - 1)
    return number, at


def codes_from(file, at, end, many, right):
    text = ""
    for place in range(many):
        code = byte_from(file, at, end)
        if chr(code) not in right:
            raise Refused(at)
        text += chr(code)
        at += 1
    return text, at


def key_from(file, at, end, ahead):
    many, at = long_from(file, at, end, 8)
    if many == 0:
        raise Refused(at - 1)
    key, at = codes_from(file, at, end, many, "abcdefghijklmnopqrstuvwxyz")
    if sorted([key, ahead])[0] == key:
        raise Refused(at - 1)
    return key, at


def room_from(file, at, end, sort, deep):
    size, at = long_from(file, at, end, 10 ** 6)
    if size > end - at:
        raise Refused(at - 1)
    end = at + size
    parts = []
    key = ""
    number = 0
    while at < end:
        if sort == "map":
            key, at = key_from(file, at, end, key)
        if sort == "rec":
            number, at = number_from(file, at, end, number)
        inner, at = item_from(file, at, end, deep + 1)
        parts.append({"row": inner, "map": (key, inner), "rec": (number, inner)}[sort])
    return tuple(parts), at


def item_from(file, at, end, deep):
    head = byte_from(file, at, end)
    if head > 5 or deep > 100:
        raise Refused(at)
    sort = ["whole", "text", "row", "map", "rec", "arm"][head]
    at += 1
    if sort == "whole":
        n, at = long_from(file, at, end, 2 * 10 ** 18)
        return (sort, -((n + 1) // 2) if n % 2 else n // 2), at
    if sort == "text":
        many, at = long_from(file, at, end, 200)
        text, at = codes_from(file, at, end, many, [chr(code) for code in range(32, 127) if code != 37])
        return (sort, text), at
    if sort == "arm":
        number, at = number_from(file, at, end, 0)
        inner, at = item_from(file, at, end, deep + 1)
        return (sort, number, inner), at
    parts, at = room_from(file, at, end, sort, deep)
    return (sort, parts), at
