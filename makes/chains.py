"""Papers chained: of papers from make to make along a row the one from the first make to the last."""

from makes.checker import lets_keep
from makes.empties import empty_forms
from makes.forms import form_of
from makes.shapes import member_of


def chained(paper, other_paper):
    pairs = {}
    empties = list(paper[1])
    for w, m in paper[0]:
        pairs.update(dict([((w, r), True) for middle, r in other_paper[0] if middle == m]))
        if m in other_paper[1]:
            empties.append(w)
    return (tuple(sorted(pairs)), tuple(sorted(set(empties))))


def knows_all(make, other, paper):
    return all([has_all(form_of(make, w), form_of(other, m)) for w, m in paper[0]])


# Of records and of choices alone something is asked.
def has_all(shape, other_shape):
    if shape[0] != other_shape[0] or shape[0] not in ("record", "choice"):
        return True
    return all([member_of(other_shape, member[0]) is not None for member in shape[1]])


def along(makes, papers):
    if len(papers) == 0:
        return ("paper", paper_with_itself(makes[0]))
    for place, paper in enumerate(papers):
        if not lets_keep(makes[place], makes[place + 1], paper):
            return ("place", place)
        # What the last make doesn't know is not chained any further.
        if place + 1 < len(papers) and not knows_all(makes[place], makes[place + 1], paper):
            return ("place", place)
    told = papers[0]
    for paper in papers[1:]:
        told = chained(told, paper)
    return ("paper", told)


# Each form with itself, by its name.
def paper_with_itself(make):
    empties = empty_forms(make)
    return (tuple([(name, name) for name in sorted(make[1]) if name not in empties]), empties)
