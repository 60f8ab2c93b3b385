"""Items with their files, written out by hand, and plain readings of the document that the tests go by."""

ZERO = ("whole", 0)
ALL_SIGNS = "".join(chr(code) for code in range(32, 127) if code != 37)

# Plain things that are no name, no number, no text, no item and no shape.
WRONG_THINGS = [
    None, True, False, -1, 10 ** 39, "", "A", "a b", "-", (), [], {}, [[]], ((),), ("a",), ["a"], {"a": 1},
    (None,), (1, 2), [("whole", 0)], {"whole": 0}, {(): ()},
]

# Forms of each sort.
FORMS = {
    "n": ("whole", -5, 70),
    "t": ("truth",),
    "s": ("text", 4),
    "r": ("row", "n", 3),
    "m": ("map", "t", 2),
    "rec": ("record", ((3, "zz", "n", (7,)), (5, "b", "t", ()), (9, "aa", "r", ((),))), (1, 4)),
    "shut": ("choice", ((1, "a", "n"), (4, "b", "rec")), (7,), False),
    "wide": ("choice", ((1, "a", "n"), (4, "b", "shut")), (7,), True),
}
MAKE = ("rec", FORMS)


def record(*ofs, left_out=()):
    """A record of fields that must be there, and of some that may be left out, each with a default."""
    fields = tuple((number, "n" + letter, of, ()) for number, letter, of in zip(range(1, 9), "abcdefgh", ofs))
    more = tuple((number, "m" + letter, of, (default,)) for number, letter, (of, default)
                 in zip(range(len(ofs) + 1, 9), "abcdefgh", left_out))
    return ("record", fields + more, ())


def choice(*ofs, wide=False):
    return ("choice", tuple((number, "n" + letter, of) for number, letter, of in zip(range(1, 9), "abcdefgh", ofs)), (), wide)


def nested(thing, wraps, many):
    for place in range(many):
        thing = wraps[place % len(wraps)](thing)
    return thing


# As many within one another as plain things may be.
DEEP_THINGS = [
    nested(None, [lambda thing: [thing]], 150),
    nested((), [lambda thing: (thing,)], 149),
    nested(0, [lambda thing: {"a": thing}], 150),
    nested("", [lambda thing: ["row", thing], lambda thing: ("row", thing), lambda thing: {"row": thing}], 150),
    nested((), [lambda thing: ("row", thing)], 149),
]

# Tuples (item, file).
PACKED = [
    (("whole", 0), (0, 0)),
    (("whole", 1), (0, 2)),
    (("whole", -1), (0, 1)),
    (("whole", 63), (0, 126)),
    (("whole", -64), (0, 127)),
    (("whole", 64), (0, 128, 1)),
    (("whole", -65), (0, 129, 1)),
    (("whole", 8191), (0, 254, 127)),
    (("whole", -8192), (0, 255, 127)),
    (("whole", 8192), (0, 128, 128, 1)),
    (("whole", 10 ** 18), (0, 128, 128, 160, 246, 244, 172, 219, 224, 27)),
    (("whole", -10 ** 18), (0, 255, 255, 159, 246, 244, 172, 219, 224, 27)),
    (("text", ""), (1, 0)),
    (("text", " ~a$&"), (1, 5, 32, 126, 97, 36, 38)),
    (("text", "a" * 127), (1, 127) + (97,) * 127),
    (("text", "a" * 128), (1, 128, 1) + (97,) * 128),
    (("text", "z" * 200), (1, 200, 1) + (122,) * 200),
    (("text", ALL_SIGNS), (1, 94) + tuple(range(32, 37)) + tuple(range(38, 127))),
    (("row", ()), (2, 0)),
    (("row", (ZERO,)), (2, 2, 0, 0)),
    (("row", (ZERO, ("text", "b"), ("row", ()))), (2, 7, 0, 0, 1, 1, 98, 2, 0)),
    (("row", (ZERO,) * 63), (2, 126) + (0, 0) * 63),
    (("row", (ZERO,) * 64), (2, 128, 1) + (0, 0) * 64),
    (("map", ()), (3, 0)),
    (("map", (("a", ZERO),)), (3, 4, 1, 97, 0, 0)),
    (("map", (("a", ZERO), ("ab", ("text", "")), ("abcdefgh", ("row", ())), ("z", ("map", ())))),
     (3, 24, 1, 97, 0, 0, 2, 97, 98, 1, 0, 8, 97, 98, 99, 100, 101, 102, 103, 104, 2, 0, 1, 122, 3, 0)),
    (("rec", ()), (4, 0)),
    (("rec", ((1, ZERO), (999, ("text", "x")))), (4, 8, 1, 0, 0, 231, 7, 1, 1, 120)),
    (("rec", ((127, ZERO), (128, ("rec", ())), (129, ("row", ())))), (4, 11, 127, 0, 0, 128, 1, 4, 0, 129, 1, 2, 0)),
    (("arm", 1, ZERO), (5, 1, 0, 0)),
    (("arm", 999, ("text", "hi")), (5, 231, 7, 1, 2, 104, 105)),
    (("arm", 128, ("arm", 2, ("row", (ZERO,)))), (5, 128, 1, 5, 2, 2, 2, 0, 0)),
    (("row", (("map", (("k", ("rec", ((3, ("arm", 4, ("text", "v"))),))),)),)),
     (2, 12, 3, 10, 1, 107, 4, 6, 3, 5, 4, 1, 1, 118)),
]


def in_arms(item, many):
    for place in range(many):
        item = ("arm", 1, item)
    return item


def in_rows(item, many):
    for place in range(many):
        item = ("row", (item,))
    return item


def in_all(item, many):
    for place in range(many):
        item = ("map", (("a", ("rec", ((1, ("row", (item,))),))),))
    return item


def long_plainly(n):
    figures = [n % 128]
    while n > 127:
        n //= 128
        figures.append(n % 128)
    return tuple([figure + 128 for figure in figures[:-1]] + figures[-1:])


def label_plainly(sort, label):
    if sort == "map":
        return (len(label),) + tuple(ord(sign) for sign in label)
    return long_plainly(label) if sort == "rec" else ()


def parts_plainly(item):
    """Of a row, map, rec or arm its parts, as tuples (step, bytes ahead of the item, item)."""
    if item[0] == "row":
        return [(("at", k), (), inner) for k, inner in enumerate(item[1])]
    if item[0] == "map":
        return [(("key", key), label_plainly("map", key), inner) for key, inner in item[1]]
    if item[0] == "rec":
        return [(("field", number), label_plainly("rec", number), inner) for number, inner in item[1]]
    if item[0] == "arm":
        return [(("arm", item[1]), long_plainly(item[1]), item[2])]
    return []


def file_plainly(item):
    head = ["whole", "text", "row", "map", "rec", "arm"].index(item[0])
    if item[0] == "whole":
        return (head,) + long_plainly(2 * item[1] if item[1] >= 0 else -2 * item[1] - 1)
    if item[0] == "text":
        return (head,) + long_plainly(len(item[1])) + tuple(ord(sign) for sign in item[1])
    room = ()
    for step, ahead, inner in parts_plainly(item):
        room += ahead + file_plainly(inner)
    return (head,) + (() if item[0] == "arm" else long_plainly(len(room))) + room


def random_item(rng, deep):
    sort = rng.choice(["whole", "text", "row", "map", "rec", "arm"] if deep > 1 else ["whole", "text"])
    if sort == "whole":
        return (sort, rng.choice([0, 1, -1, 63, 64, -64, -65, 10 ** 18, -10 ** 18, rng.randint(-10 ** 6, 10 ** 6)]))
    if sort == "text":
        return (sort, "".join(rng.choice(ALL_SIGNS) for place in range(rng.choice([0, 1, 3, 8]))))
    if sort == "arm":
        return (sort, rng.choice([1, 2, 127, 128, 999]), random_item(rng, deep - 1))
    inner = [random_item(rng, deep - 1) for place in range(rng.randint(0, 4))]
    if sort == "row":
        return (sort, tuple(inner))
    labels = ["a", "ab", "b", "key", "zzzzzzzz"] if sort == "map" else [1, 2, 127, 128, 300, 999]
    return (sort, tuple(zip(sorted(rng.sample(labels, len(inner))), inner)))
