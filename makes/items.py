"""Names, numbers and texts, and the items that are made of them: what a file says, whatever form it has."""

LETTERS = "abcdefghijklmnopqrstuvwxyz"
# All signs of texts, by rising codes: from the blank on, without the sign for hundredths.
SIGNS = " !\"#$&'()*+,-./0123456789:;<=>?@ABCDEFGHIJKLMNOPQRSTUVWXYZ[\\]^_`abcdefghijklmnopqrstuvwxyz{|}~"
GREATEST_WHOLE = 1_000_000_000_000_000_000
GREATEST_NUMBER = 999
LONGEST_TEXT = 200
LONGEST_NAME = 8
DEEPEST = 100


def is_whole(thing, low, high):
    return isinstance(thing, int) and not isinstance(thing, bool) and low <= thing <= high


def is_item_whole(thing):
    return is_whole(thing, -GREATEST_WHOLE, GREATEST_WHOLE)


def is_number(thing):
    return is_whole(thing, 1, GREATEST_NUMBER)


def is_text(thing, most):
    return isinstance(thing, str) and len(thing) <= most and all([sign in SIGNS for sign in thing])


def is_name(thing):
    if not isinstance(thing, str) or not 1 <= len(thing) <= LONGEST_NAME:
        return False
    return all([sign in LETTERS for sign in thing])


def rises(things):
    return all([one < other for one, other in zip(things, things[1:])])


def is_item(thing):
    deep = 0
    level = [thing]
    while level:
        deep = deep + 1
        if deep > DEEPEST or not all([is_right_outside(part) for part in level]):
            return False
        level = level_below(level)
    return True


def count_of(item):
    return sum([len(level) for level in levels_of(item)])


def deep_of(item):
    return len(levels_of(item))


# Items are gone through level by level: so how deep they are is no matter for Python's own calls.
def levels_of(item):
    levels = []
    level = [item]
    while level:
        levels.append(level)
        level = level_below(level)
    return levels


def level_below(level):
    below = []
    for item in level:
        below.extend(items_in(item))
    return below


def items_in(item):
    if item[0] == "row":
        return list(item[1])
    if item[0] == "arm":
        return [item[2]]
    if item[0] == "map" or item[0] == "rec":
        return [inner for label, inner in item[1]]
    return []


# Whether it is an item if only the things that stand in it for items are some.
def is_right_outside(thing):
    if not isinstance(thing, tuple) or len(thing) < 2:
        return False
    if thing[0] == "arm":
        return len(thing) == 3 and is_number(thing[1])
    return len(thing) == 2 and is_right_behind(thing[0], thing[1])


def is_right_behind(sort, thing):
    if sort == "whole":
        return is_item_whole(thing)
    if sort == "text":
        return is_text(thing, LONGEST_TEXT)
    if sort == "row":
        return isinstance(thing, tuple)
    if sort == "map":
        return are_pairs(thing) and are_labels([pair[0] for pair in thing], is_name)
    if sort == "rec":
        return are_pairs(thing) and are_labels([pair[0] for pair in thing], is_number)
    return False


def are_pairs(thing):
    return isinstance(thing, tuple) and all([isinstance(pair, tuple) and len(pair) == 2 for pair in thing])


def are_labels(things, is_label):
    return all([is_label(thing) for thing in things]) and rises(things)
