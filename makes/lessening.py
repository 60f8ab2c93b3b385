"""Papers lessened to what the roots lead to."""

from makes.forms import form_of
from makes.shapes import may_be_left_out, member_of


def lessened(make, other, paper):
    come_to = {}
    waiting = [lead(paper, make[0], other[0])]
    while waiting:
        thing = waiting.pop()
        if thing not in come_to:
            come_to[thing] = True
            waiting.extend(leads_of(make, other, paper, thing))
    pairs = [thing for thing in come_to if not isinstance(thing, str)]
    empties = [thing for thing in come_to if isinstance(thing, str)]
    return (tuple(sorted(pairs)), tuple(sorted(empties)))


# Led to is one of the empties, by its name, or a pair.
def lead(paper, w, r):
    return w if w in paper[1] else (w, r)


def leads_of(make, other, paper, thing):
    if isinstance(thing, str):
        return leads_of_empty(paper, form_of(make, thing))
    shape = form_of(make, thing[0])
    other_shape = form_of(other, thing[1])
    if shape[0] == "record" or shape[0] == "choice":
        return leads_of_members(paper, shape, other_shape)
    if (shape[0] == "row" or shape[0] == "map") and shape[2] > 0:
        return [lead(paper, shape[1], other_shape[1])]
    return []


def leads_of_members(paper, shape, other_shape):
    leads = []
    for member in shape[1]:
        other_member = member_of(other_shape, member[0])
        if other_member is not None:
            leads.append(lead(paper, member[2], other_member[2]))
        elif shape[0] == "choice" and member[2] in paper[1]:
            leads.append(member[2])
    return leads


def leads_of_empty(paper, shape):
    members = shape[1]
    if shape[0] == "record":
        members = [field for field in members if not may_be_left_out(field)]
    return [member[2] for member in members if member[2] in paper[1]]
