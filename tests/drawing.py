"""Makes and values drawn by a fixed rule: the same ones at each run."""

import random

from makes.forms import fits_default, is_make
from makes.shapes import is_shape
from tests.samples import ALL_SIGNS, random_item

MOST = 10 ** 18
SORTS = ["whole", "truth", "text", "row", "map", "record", "choice"]


def great_makes(seed, many):
    """Makes at all bounds."""
    rng = random.Random(seed)
    makes = []
    for turn in range(many):
        names = rng.sample(["a", "ab", "b", "make", "form", "field", "struck", "zzzzzzzz"], rng.randint(1, 8))
        forms = {name: great_shape(rng, names) for name in names}
        makes.append(right_make(rng.choice(names), {name: with_defaults(rng, shape, forms) for name, shape in forms.items()}))
    return makes


def great_shape(rng, names):
    sort = rng.choice(SORTS)
    if sort == "whole":
        return (sort,) + tuple(sorted(rng.choice([0, 1, -1, 77, -300, MOST, -MOST]) for bound in range(2)))
    if sort == "truth":
        return (sort,)
    if sort == "text":
        return (sort, rng.choice([0, 1, 9, 10, 200]))
    if sort in ("row", "map"):
        return (sort, rng.choice(names), rng.choice([0, 1, 9, 10, 20]))
    numbers = rng.sample([1, 2, 9, 10, 99, 100, 500, 998, 999], rng.randint(0, 9))
    some = sorted(numbers[:8 - len(numbers) // 2])
    members = tuple((number, "n" + letter, rng.choice(names)) for number, letter in zip(some, "hgfedcba"))
    struck = tuple(sorted(numbers[8 - len(numbers) // 2:]))
    if sort == "choice":
        return (sort, members, struck, rng.choice([True, False]))
    return (sort, tuple(member + ((),) for member in members), struck)


def small_makes(seed, many):
    """Makes of few forms within narrow bounds, so that any two have much in common."""
    rng = random.Random(seed)
    return [small_make(rng) for turn in range(many)]


def small_make(rng):
    names = list("abcdef")[:rng.randint(1, 6)]
    forms = {name: small_shape(rng, names) for name in names}
    return right_make("a", {name: with_defaults(rng, shape, forms) for name, shape in forms.items()})


def small_shape(rng, names, sort=None):
    sort = sort or rng.choice(SORTS + ["record", "choice"])
    if sort == "whole":
        return (sort,) + tuple(sorted(rng.choice([-1, 0, 0, 1, 1, 2]) for bound in range(2)))
    if sort == "truth":
        return (sort,)
    if sort == "text":
        return (sort, rng.choice([0, 1, 2]))
    if sort in ("row", "map"):
        return (sort, rng.choice(names), rng.choice([0, 1, 2, 3]))
    numbers = sorted(rng.sample([1, 2, 3, 4, 5], rng.choice([0, 1, 2, 2, 3])))
    members = tuple((number, "n" + letter, rng.choice(names)) for number, letter in zip(numbers, "edcba"))
    struck = tuple(number for number in [1, 2, 6] if number not in numbers)[:rng.randint(0, 2)]
    if sort == "choice":
        return (sort, members, struck, rng.choice([True, False]))
    return (sort, tuple(member + ((),) for member in members), struck)


def with_defaults(rng, shape, forms):
    if shape[0] != "record":
        return shape
    return (shape[0], tuple(field[:3] + (some_default(rng, forms[field[2]]),) for field in shape[1]), shape[2])


def some_default(rng, shape):
    if rng.random() < 0.3 or shape[0] in ("record", "choice"):
        return ()
    if shape[0] == "whole":
        return (rng.choice([shape[1], shape[2]]),)
    if shape[0] == "truth":
        return (rng.choice([True, False]),)
    if shape[0] == "text":
        return ("".join(rng.choice(ALL_SIGNS + " " * 60) for place in range(rng.randint(0, shape[1]))),)
    return ((),)


def right_make(root, forms):
    make = (root, forms)
    assert is_make(make), make
    return make


class Drawer:
    """Draws values of one make; with own False also such as hold what the make doesn't know."""

    def __init__(self, rng, make, own=True, most=60):
        self.rng = rng
        self.forms = make[1]
        self.own = own
        self.most = most
        self.drawn = 0

    def value(self, name, deep=8):
        """None where none was found: the form has none, or none within these bounds."""
        self.drawn = 0
        return self.draw(name, deep)

    def draw(self, name, deep):
        self.drawn += 1
        if deep == 0 or self.drawn > 4 * self.most:
            return None
        shape = self.forms[name]
        return getattr(self, "draw_" + shape[0])(shape, deep - 1)

    def draw_whole(self, shape, deep):
        return self.rng.choice([shape[1], shape[2], self.rng.randint(shape[1], shape[2])])

    def draw_truth(self, shape, deep):
        return self.rng.choice([True, False])

    def draw_text(self, shape, deep):
        many = self.rng.choice([0, shape[1], self.rng.randint(0, min(shape[1], 5))])
        return "".join(self.rng.choice("aab " + ALL_SIGNS) for place in range(many))

    def draw_row(self, shape, deep):
        many = 0 if self.drawn > self.most else self.rng.choice([0, 1, 2, shape[2]])
        parts = [self.draw(shape[1], deep) for place in range(min(many, shape[2]))]
        return tuple(part for part in parts if part is not None)

    def draw_map(self, shape, deep):
        keys = sorted(self.rng.sample(["a", "aa", "ab", "zzzzzzzz"] + list("bcdefghijklmnopqr"), 20))
        return tuple(zip(keys, self.draw_row(shape, deep)))

    def draw_record(self, shape, deep):
        known = []
        for number, name, of, default in shape[1]:
            part = default[0] if default and self.rng.random() < 0.4 else self.draw(of, deep)
            part = default[0] if default and part is None else part
            if part is None:
                return None
            known.append(part)
        return (tuple(known), self.others(shape))

    def others(self, shape):
        if self.own or self.rng.random() < 0.4:
            return ()
        taken = [field[0] for field in shape[1]]
        free = [number for number in [1, 2, 3, 4, 5, 6, 9, 100, 999] if number not in taken]
        return tuple((number, random_item(self.rng, 3)) for number in sorted(self.rng.sample(free, 2)))

    def draw_choice(self, shape, deep):
        if not self.own and shape[3] and self.rng.random() < 0.4:
            return self.other(shape)
        for number, name, of in self.rng.sample(shape[1], len(shape[1])):
            part = self.draw(of, deep)
            if part is not None:
                return ("arm", number, part)
        return self.other(shape) if shape[3] and not self.own else None

    def other(self, shape):
        taken = [arm[0] for arm in shape[1]]
        free = [number for number in [1, 2, 3, 4, 5, 6, 9, 100, 999] if number not in taken]
        return ("other", self.rng.choice(free), random_item(self.rng, 3))


def values_of(rng, make, name, many, own=True):
    """At most so many values of a form."""
    drawer = Drawer(rng, make, own)
    drawn = [drawer.value(name, rng.choice([2, 4, 8])) for turn in range(many)]
    return [value for value in drawn if value is not None]


def variants(rng, thing):
    """The thing with something turned at each of its places."""
    told = [None, [], {}, "a", 1, True, (thing,), [thing]]
    if isinstance(thing, bool):
        told.append(int(thing))
    elif isinstance(thing, int):
        told.extend([thing + 1, thing - 1, bool(thing)])
    elif isinstance(thing, str):
        told.extend([thing + "a", thing[1:], thing.upper()])
    elif isinstance(thing, tuple):
        told.extend([list(thing), thing[1:], thing[:-1], thing + thing[-1:], thing[::-1], thing + (None,)])
        for place, part in enumerate(thing):
            for other in rng.sample(variants(rng, part), 6):
                told.append(thing[:place] + (other,) + thing[place + 1:])
    return told


def make_pairs(seed, many):
    """Tuples of two makes: the same, turned in one thing, in some, in many, or two of their own."""
    rng = random.Random(seed)
    for turn in range(many):
        draw = small_make if turn % 3 == 0 else linked_make
        make = draw(rng)
        other = draw(rng) if turn % 7 == 0 else make
        for edit in range(turn % 7):
            other = turned_make(rng, other, turned_shape if rng.random() < 0.2 else grown_shape)
        yield make, renamed(rng, other)


def linked_make(rng):
    """Records, choices, rows and maps that go round among one another and end in single forms."""
    names = list("abcdefg")[:rng.randint(4, 7)]
    forms = {}
    for name in names[:-3]:
        forms[name] = small_shape(rng, names + names[-3:], rng.choice(["row", "map", "record", "record", "record", "choice"]))
    for name, sort in zip(names[-3:], rng.sample(["whole", "truth", "text"], 3)):
        forms[name] = small_shape(rng, names, sort)
    return right_make("a", {name: with_defaults(rng, shape, forms) for name, shape in forms.items()})


def renamed(rng, make):
    """The forms have other names; the root may be any."""
    names = dict(zip(sorted(make[1]), rng.sample(list("abcdefgh"), len(make[1]))))
    forms = {}
    for name, shape in make[1].items():
        if shape[0] in ("row", "map"):
            shape = (shape[0], names[shape[1]], shape[2])
        elif shape[0] in ("record", "choice"):
            members = tuple(member[:2] + (names[member[2]],) + member[3:] for member in shape[1])
            shape = (shape[0], members) + shape[2:]
        forms[names[name]] = shape
    return right_make(names[make[0]], forms)


def turned_make(rng, make, turned):
    """A make with one thing turned, and the defaults that no longer fit."""
    while True:
        forms = dict(make[1])
        name = rng.choice(sorted(forms) + [make[0]] * 3)
        forms[name] = turned(rng, forms[name], sorted(forms))
        if is_shape(forms[name]):
            forms = {of: with_fitting_defaults(rng, shape, forms) for of, shape in forms.items()}
            return right_make(make[0], forms)


def with_fitting_defaults(rng, shape, forms):
    if shape[0] != "record":
        return shape
    return (shape[0], tuple(field if fits_default(field, forms) else field[:3] + (some_default(rng, forms[field[2]]),)
                            for field in shape[1]), shape[2])


def turned_shape(rng, shape, names):
    step = rng.choice([-1, 1])
    if rng.random() < 0.05:
        return small_shape(rng, names)
    if shape[0] == "whole":
        return rng.choice([("whole", shape[1] + step, shape[2]), ("whole", shape[1], shape[2] + step), ("truth",)])
    if shape[0] == "truth":
        return ("whole", rng.choice([-1, 0, 1]), rng.choice([1, 2]))
    if shape[0] == "text":
        return ("text", shape[1] + step)
    if shape[0] in ("row", "map"):
        return rng.choice([(shape[0], shape[1], shape[2] + step), (shape[0], rng.choice(names), shape[2])])
    if shape[0] == "choice" and rng.random() < 0.3:
        return shape[:3] + (not shape[3],)
    return (shape[0], turned_members(rng, shape, names)) + shape[2:]


def grown_shape(rng, shape, names):
    """So that what was read before is likely to be read still."""
    if shape[0] == "whole":
        return rng.choice([("whole", shape[1] - 1, shape[2]), ("whole", shape[1], shape[2] + 1)])
    if shape[0] == "truth":
        return ("whole", rng.choice([-1, 0]), rng.choice([1, 2]))
    if shape[0] in ("text", "row", "map"):
        return shape[:-1] + (shape[-1] + 1,)
    members = list(shape[1])
    if shape[0] == "choice":
        return ("choice", tuple(members), shape[2], True) if not shape[3] else shape[:1] + (tuple(members[1:]),) + shape[2:]
    if members and rng.random() < 0.85:
        place = rng.randrange(len(members))
        field = members.pop(place)
        if rng.random() < 0.8:
            # This default fits no form, so that another one is drawn.
            members.insert(place, field if field[3] else field[:3] + ((None,),))
        return (shape[0], tuple(members), shape[2])
    free = [number for number in range(1, 9) if number not in [field[0] for field in members] + list(shape[2])]
    return (shape[0], tuple(sorted(members + [(free[0], "more" + rng.choice("abc"), rng.choice(names), (None,))],
                                   key=lambda field: field[0])), shape[2])


def turned_members(rng, shape, names):
    members = list(shape[1])
    place = rng.randrange(len(members) + 1)
    if place == len(members) or rng.random() < 0.2:
        free = [number for number in range(1, 7) if number not in [member[0] for member in members] + list(shape[2])]
        added = (free[0] if free else 99, "more", rng.choice(names))
        return tuple(sorted(members + [added + ((),) if shape[0] == "record" else added]))
    member = members.pop(place)
    if rng.random() < 0.3:
        return tuple(members)
    if shape[0] == "choice" or rng.random() < 0.3:
        member = member[:2] + (rng.choice(names),) + member[3:]
    else:
        member = member[:3] + (rng.choice([(), (0,), (1,), (True,), (False,), ("",), ("a",), ((),)]),)
    return tuple(sorted(members + [member]))
