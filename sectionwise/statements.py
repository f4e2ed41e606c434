"""Statements of programs on arrays: what is one, and what it does to the forms of the elements.

A form is a tuple (constant, factors), factors being a dict that has, for each element (name, place) that counts, a
factor that is not 0. Forms are never changed, so that several elements may have the same one.
"""

from sectionwise.errors import InvalidProgram
from sectionwise.parts import is_far, is_name
from sectionwise.sections import (
    has_each_once, is_bounds, is_section, many_in, places_of, shape_of, shared_elements, size_of,
)

ARRAYS = 8
LETTERS = 8
PLACES = 200
STATEMENTS = 40

# For each word how many parts a statement has, and at which place its number stands, if it has one.
PARTS = {"copy": 6, "add": 7, "times": 5, "fill": 5, "swap": 6}
NUMBERS = {"add": 5, "times": 3, "fill": 3}
WITH_SOURCE = ("copy", "add", "swap")


def are_arrays(value):
    """Whether any value is a dict of so few names with the bounds of arrays, which have so few elements together."""
    if not isinstance(value, dict) or not 1 <= len(value) <= ARRAYS:
        return False
    if not all([is_name(name, LETTERS) and is_bounds(bounds) for name, bounds in value.items()]):
        return False
    return sum([size_of(bounds) for bounds in value.values()]) <= PLACES


def is_statement(value):
    """Whether any value is a tuple with the word and as many parts as a statement has."""
    if not isinstance(value, tuple) or len(value) == 0 or not isinstance(value[0], str):
        return False
    return len(value) == PARTS.get(value[0])


def is_section_in(arrays, name, section):
    """Whether any two values are the name of an array and a section of it."""
    return isinstance(name, str) and name in arrays and is_section(arrays[name], section)


def is_mask(value, many):
    """Whether any value is a mask for so many elements."""
    if value is None:
        return True
    return isinstance(value, tuple) and len(value) == many and all([isinstance(is_done, bool) for is_done in value])


def wrong_source(arrays, statement):
    """What is wrong about the second section of a statement with a right target; None if nothing is."""
    word, name, section, source, other = statement[:5]
    if not is_section_in(arrays, source, other):
        return "source"
    if word == "swap" and not has_each_once(other):
        return "source"
    if shape_of(other) != shape_of(section):
        return "shape"
    if word == "swap" and name == source and shared_elements(section, other)[0] > 0:
        return "source"
    return None


def wrong_part(arrays, value):
    """The first thing that is wrong about what may be a statement, None if nothing is."""
    if not is_statement(value):
        return "statement"
    word, name, section = value[:3]
    if not is_section_in(arrays, name, section) or not has_each_once(section):
        return "target"
    if word in WITH_SOURCE:
        told = wrong_source(arrays, value)
        if told is not None:
            return told
    if word in NUMBERS and not is_far(value[NUMBERS[word]]):
        return "number"
    if not is_mask(value[-1], many_in(section)):
        return "mask"
    return None


def check_flow(arrays, statements):
    """Refuse what are no arrays, then what is no list or tuple of so few statements for them."""
    if not are_arrays(arrays):
        raise InvalidProgram(None, "arrays")
    if not isinstance(statements, (list, tuple)) or len(statements) > STATEMENTS:
        raise InvalidProgram(None, "statements")
    for at, statement in enumerate(statements):
        part = wrong_part(arrays, statement)
        if part is not None:
            raise InvalidProgram(at, part)


def copied(part):
    """A part of a statement; a section with new lists for those that it has."""
    if not isinstance(part, tuple):
        return part
    return tuple([list(its) if isinstance(its, list) else its for its in part])


def copied_statement(statement):
    """A statement with new lists for those in its sections."""
    return tuple([copied(part) for part in statement])


def done_elements(arrays, statement, at):
    """The list of the elements of the section behind a name, of those that the mask of a statement tells."""
    name, section = statement[at:at + 2]
    mask = statement[-1]
    places = places_of(arrays[name], section)
    return [(name, place) for number, place in enumerate(places) if mask is None or mask[number]]


def times(form, number):
    """A form multiplied by a number."""
    constant, factors = form
    if number == 0:
        return 0, {}
    return constant * number, {element: factor * number for element, factor in factors.items()}


def plus(form, other):
    """The sum of two forms."""
    told = {element: factor for element, factor in form[1].items()}
    for element, factor in other[1].items():
        told[element] = told.get(element, 0) + factor
    return form[0] + other[0], {element: factor for element, factor in told.items() if factor != 0}


def changed(arrays, statement, forms):
    """The new forms of the elements that a statement writes, in a dict; forms has those of all elements ahead of it."""
    word = statement[0]
    written = done_elements(arrays, statement, 1)
    if word == "times":
        return {element: times(forms[element], statement[3]) for element in written}
    if word == "fill":
        return {element: (statement[3], {}) for element in written}
    read = done_elements(arrays, statement, 3)
    if word == "add":
        return {
            element: plus(forms[element], times(forms[source], statement[5]))
            for element, source in zip(written, read)
        }
    told = {element: forms[source] for element, source in zip(written, read)}
    if word == "swap":
        for element, source in zip(written, read):
            told[source] = forms[element]
    return told


def carried_out(arrays, statements, forms):
    """The forms of all elements behind statements; forms has those ahead of them."""
    told = {element: forms[element] for element in forms}
    for statement in statements:
        made = changed(arrays, statement, told)
        for element in made:
            told[element] = made[element]
    return told


def all_elements(arrays):
    """The ascending list of the elements (name, place) of all arrays."""
    return [(name, place) for name in sorted(arrays) for place in range(size_of(arrays[name]))]
