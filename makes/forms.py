"""Makes, and the forms in them."""

from makes.items import is_name
from makes.shapes import is_shape, is_single_value

MOST_FORMS = 8


def is_make(thing):
    if not isinstance(thing, tuple) or len(thing) != 2:
        return False
    root = thing[0]
    forms = thing[1]
    if not are_forms(forms) or not is_name(root) or root not in forms:
        return False
    return all([fits_in(shape, forms) for shape in forms.values()])


def form_of(make, name):
    return make[1].get(name)


def sort_of(make, name):
    return form_of(make, name)[0]


def is_form(make, thing):
    return is_name(thing) and thing in make[1]


def are_forms(thing):
    if not isinstance(thing, dict) or not 1 <= len(thing) <= MOST_FORMS:
        return False
    return all([is_name(name) and is_shape(shape) for name, shape in thing.items()])


def fits_in(shape, forms):
    if not all([of in forms for of in ofs_of(shape)]):
        return False
    return shape[0] != "record" or all([fits_default(field, forms) for field in shape[1]])


def ofs_of(shape):
    if shape[0] == "row" or shape[0] == "map":
        return [shape[1]]
    if shape[0] == "record" or shape[0] == "choice":
        return [member[2] for member in shape[1]]
    return []


def fits_default(field, forms):
    default = field[3]
    shape = forms[field[2]]
    if default == ():
        return True
    if shape[0] == "row" or shape[0] == "map":
        return default == ((),)
    return is_single_value(shape, default[0])
