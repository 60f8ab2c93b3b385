"""The papers that deeds bring: from the make ahead of them to the one behind them."""

from makes.chains import paper_with_itself
from makes.deeds import all_done, done
from makes.empties import empty_forms
from makes.errors import BadDeed
from makes.forms import form_of
from makes.shapes import member_of


def deed_paper(make, deed):
    return paper_to(make, done(make, deed))


def deeds_paper(make, deeds):
    return paper_to(make, all_done(make, deeds)[-1])


def paper_to(make, last):
    empties = empty_forms(make)
    if any([is_shut(form_of(make, name), form_of(last, name), empties) for name in make[1]]):
        raise BadDeed("shut")
    return paper_with_itself(make)


# Whether a choice has an arm with own values that the later one refuses.
def is_shut(shape, later, empties):
    if shape[0] != "choice" or later[3]:
        return False
    return any([arm[2] not in empties and member_of(later, arm[0]) is None for arm in shape[1]])
