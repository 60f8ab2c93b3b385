"""Points 58 to 64 read row by row, as slow as it likes, and deeds drawn by a fixed rule."""

from makes.forms import is_make
from makes.items import is_name
from makes.shapes import is_shape
from tests.drawing import grown_shape, small_shape, some_default

MANY_THINGS = {"add": 3, "strike": 3, "rename": 4, "widen": 3, "arm": 3, "open": 2, "form": 3}
RIGHT_SORTS = {"add": ["record"], "strike": ["record", "choice"], "rename": ["record", "choice"],
               "widen": ["whole", "text", "row", "map"], "arm": ["choice"], "open": ["choice"]}


def is_number(thing):
    return type(thing) is int and 0 < thing < 1000


def is_member(thing, many):
    if type(thing) is not tuple or len(thing) != many:
        return False
    if not is_number(thing[0]) or not is_name(thing[1]) or not is_name(thing[2]):
        return False
    return many == 3 or (type(thing[3]) is tuple and len(thing[3]) in (0, 1))


def words_plainly(make, deed):
    """All words of point 59 that are so, in their order; those behind one that leaves nothing to ask are not told."""
    if type(deed) is not tuple or not deed or type(deed[0]) is not str or MANY_THINGS.get(deed[0]) != len(deed):
        return ["deed"]
    word, name = deed[:2]
    things = deed[2:]
    if not is_name(name) or (name in make[1]) == (word == "form"):
        return ["form"]
    if word != "form" and make[1][name][0] not in RIGHT_SORTS[word]:
        return ["sort"]
    right = {"add": lambda: is_member(things[0], 4), "arm": lambda: is_member(things[0], 3),
             "strike": lambda: is_number(things[0]), "rename": lambda: is_number(things[0]) and is_name(things[1]),
             "widen": lambda: is_shape(things[0]), "form": lambda: is_shape(things[0]), "open": lambda: True}
    if not right[word]():
        return ["thing"]
    words = []
    if word in ("add", "arm", "strike", "rename"):
        words.extend(member_words(make[1][name], word, things))
    if word == "widen" and lets_less(make[1][name], things[0]):
        words.append("narrow")
    if not words and not is_make(make_plainly(make, deed)):
        words.append("make")
    return words


def member_words(shape, word, things):
    number, name = things if word == "rename" else (things[0], None) if word == "strike" else things[0][:2]
    there = {member[0]: member[1] for member in shape[1]}
    words = []
    if word in ("strike", "rename") and number not in there:
        words.append("number")
    if word in ("add", "arm") and number in list(there) + list(shape[2]):
        words.append("number")
    if name in [there[other] for other in there if other != number]:
        words.append("name")
    if word == "add" and things[0][3] == ():
        words.append("must")
    return words


def lets_less(shape, other):
    if shape[0] != other[0]:
        return True
    if shape[0] == "whole":
        return not (other[1] <= shape[1] and shape[2] <= other[2])
    return not other[-1] >= shape[-1] or shape[1:-1] != other[1:-1]


def make_plainly(make, deed):
    """What comes of a deed that has none of the words but "make"."""
    forms = dict(make[1])
    word, name = deed[:2]
    if word in ("widen", "form"):
        forms[name] = deed[2]
        return (make[0], forms)
    shape = list(forms[name])
    there = {member[0]: member for member in shape[1]}
    if word == "open":
        shape[3] = True
    elif word == "strike":
        there.pop(deed[2])
        shape[2] = tuple(sorted(shape[2] + (deed[2],)))
    elif word == "rename":
        there[deed[2]] = (deed[2], deed[3]) + there[deed[2]][2:]
    else:
        there[deed[2][0]] = deed[2]
    shape[1] = tuple(there[number] for number in sorted(there))
    forms[name] = tuple(shape)
    return (make[0], forms)


WORDS = ["add", "add", "add", "strike", "rename", "widen", "widen", "arm", "arm", "open", "form"]


def some_deed(rng, make, words=WORDS):
    """One that is likely to be right."""
    names = sorted(make[1])
    word = rng.choice(words)
    name = rng.choice([name for name in names if word == "form" or make[1][name][0] in RIGHT_SORTS[word]] or names)
    shape = make[1][name]
    numbers = [member[0] for member in shape[1]] if shape[0] in ("record", "choice") else []
    number = rng.choice(numbers + [rng.randint(1, 9)]) if rng.random() < 0.9 else rng.choice([0, 999, 1000, True])
    label = "n" + rng.choice("abcdefgh")
    of = rng.choice(names) if rng.random() < 0.95 else "zz"
    if word in ("add", "arm"):
        number = rng.choice([rng.randint(1, 9), number])
        member = (number, label, of)
        return (word, name, member if word == "arm" else member + (some_default(rng, make[1].get(of, shape)),))
    if word == "strike":
        return (word, name, number)
    if word == "rename":
        return (word, name, number, label)
    if word == "widen":
        grown = grown_shape(rng, shape, names) if rng.random() < 0.8 else small_shape(rng, names)
        return (word, name, grown)
    if word == "open":
        return (word, name)
    return (word, rng.choice(["x", "y", "z", name]), small_shape(rng, names + ["x"]))


def right_deeds(rng, make, many, words=WORDS):
    """So many deeds, each one right behind those ahead of it, and the last make."""
    deeds = []
    while len(deeds) < many:
        deed = some_deed(rng, make, words)
        if not words_plainly(make, deed):
            deeds.append(deed)
            make = make_plainly(make, deed)
    return deeds, make


def breaks_plainly(make, other):
    """All words of point 62 that are so, in their order."""
    words = ["root"] if make[0] != other[0] else []
    for name in sorted(make[1]):
        shape = make[1][name]
        later = other[1].get(name, (None,))
        if shape[0] != later[0]:
            words.append("form")
        elif shape[0] in ("record", "choice"):
            ofs = {member[0]: member[2] for member in shape[1]}
            later_ofs = {member[0]: member[2] for member in later[1]}
            words.extend(["lost"] * bool(set(ofs) - set(later_ofs) - set(later[2])))
            words.extend(["back"] * bool(set(shape[2]) - set(later[2])))
            words.extend(["turned"] * any(ofs[number] != later_ofs[number] for number in set(ofs) & set(later_ofs)))
            words.extend(["shut"] * (shape[3:] == (True,) and later[3:] == (False,)))
    return words
