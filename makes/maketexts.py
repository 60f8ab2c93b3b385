"""A make as lines of text, and such lines read."""

from makes.errors import BadText
from makes.items import GREATEST_NUMBER, GREATEST_WHOLE, LONGEST_TEXT, is_name, is_text
from makes.shapes import MOST_PARTS

FIGURES = "0123456789"
# No number of a make has more figures.
MOST_FIGURES = 19


def shown_make(make):
    root = make[0]
    lines = [f"make {root}"]
    for name in sorted(make[1]):
        lines.extend(shown_form(name, make[1][name]))
    return lines


def shown_form(name, shape):
    if shape[0] == "record":
        return [f"form {name} record"] + [shown_field(field) for field in shape[1]] + [shown_struck(shape[2])]
    if shape[0] == "choice":
        ending = "open" if shape[3] else "closed"
        return [f"form {name} choice {ending}"] + [shown_arm(arm) for arm in shape[1]] + [shown_struck(shape[2])]
    return [" ".join(["form", name] + [str(part) for part in shape])]


def shown_field(field):
    return " ".join(["field"] + [str(part) for part in field[:3]] + [shown_default(field[3])])


def shown_arm(arm):
    return " ".join(["arm"] + [str(part) for part in arm])


def shown_struck(struck):
    return " ".join(["struck"] + [str(number) for number in struck])


def shown_default(default):
    if default == ():
        return "must"
    told = default[0]
    if told == ():
        return "none"
    if isinstance(told, bool):
        return "truth yes" if told else "truth no"
    return f"text {told}" if isinstance(told, str) else f"whole {told}"


def read_make(texts):
    words = line_at(texts, 0).split(" ")
    if len(words) != 2 or words[0] != "make" or not is_name(words[1]):
        raise BadText(0)
    forms = {}
    at = 1
    while at < len(texts) or len(forms) == 0:
        at = read_form(forms, texts, at)
    return (words[1], forms)


def line_at(texts, at):
    if at == len(texts):
        raise BadText(at)
    return texts[at]


# The form that begins at this line is put into forms; told is the number of the line behind it.
def read_form(forms, texts, at):
    words = line_at(texts, at).split(" ")
    if len(words) < 3 or words[0] != "form" or not is_name(words[1]):
        raise BadText(at)
    behind = words[2:]
    if behind == ["record"]:
        end = struck_place(texts, at + 1, field_in)
        fields = tuple([field_in(text) for text in texts[at + 1:end]])
        forms[words[1]] = ("record", fields, struck_in(texts[end]))
        return end + 1
    if behind == ["choice", "open"] or behind == ["choice", "closed"]:
        end = struck_place(texts, at + 1, arm_in)
        arms = tuple([arm_in(text) for text in texts[at + 1:end]])
        forms[words[1]] = ("choice", arms, struck_in(texts[end]), behind[1] == "open")
        return end + 1
    shape = single_shape(behind)
    if shape is None:
        raise BadText(at)
    forms[words[1]] = shape
    return at + 1


def struck_place(texts, at, member_in):
    while struck_in(line_at(texts, at)) is None:
        if member_in(texts[at]) is None:
            raise BadText(at)
        at = at + 1
    return at


# From here on None is told of words and lines that can not be read as what is asked for.


def single_shape(words):
    shape = None
    if words == ["truth"]:
        shape = ("truth",)
    elif len(words) == 2 and words[0] == "text":
        shape = ("text", whole_in(words[1], 0, LONGEST_TEXT))
    elif len(words) == 3 and words[0] == "whole":
        shape = ("whole", item_whole_in(words[1]), item_whole_in(words[2]))
    elif len(words) == 3 and words[0] in ("row", "map") and is_name(words[1]):
        shape = (words[0], words[1], whole_in(words[2], 0, MOST_PARTS))
    return None if shape is None or None in shape else shape


def field_in(text):
    # The fifth blank is the last one that parts words: behind it stands a default, perhaps with blanks of its own.
    words = text.split(" ", 5)
    if len(words) < 5 or words[0] != "field":
        return None
    number = number_in(words[1])
    default = default_in(words[4:])
    if number is None or default is None or not is_name(words[2]) or not is_name(words[3]):
        return None
    return (number, words[2], words[3], default)


def default_in(words):
    if words == ["must"]:
        return ()
    if words == ["none"]:
        return ((),)
    if words == ["truth", "yes"] or words == ["truth", "no"]:
        return (words[1] == "yes",)
    if len(words) == 2 and words[0] == "whole":
        told = item_whole_in(words[1])
        return None if told is None else (told,)
    if len(words) == 2 and words[0] == "text" and is_text(words[1], LONGEST_TEXT):
        return (words[1],)
    return None


def arm_in(text):
    words = text.split(" ")
    if len(words) != 4 or words[0] != "arm":
        return None
    number = number_in(words[1])
    if number is None or not is_name(words[2]) or not is_name(words[3]):
        return None
    return (number, words[2], words[3])


def struck_in(text):
    words = text.split(" ")
    numbers = [number_in(word) for word in words[1:]]
    if words[0] != "struck" or None in numbers:
        return None
    return tuple(numbers)


def number_in(word):
    return whole_in(word, 1, GREATEST_NUMBER)


def item_whole_in(word):
    return whole_in(word, -GREATEST_WHOLE, GREATEST_WHOLE)


def whole_in(word, low, high):
    figures = word[1:] if word.startswith("-") else word
    if not 1 <= len(figures) <= MOST_FIGURES or not all([figure in FIGURES for figure in figures]):
        return None
    n = int(word)
    # Numbers have one right writing alone: no 0 ahead, no -0.
    return n if str(n) == word and low <= n <= high else None
