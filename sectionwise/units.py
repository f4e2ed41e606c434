"""Variables of several kinds that share the units of one storage.

A CELL is a tuple (kind, first): the elements of one kind on just the same units, from the first one on.
"""

from sectionwise.errors import InvalidLayout
from sectionwise.parts import is_name, is_number

WIDTHS = {"integer": 1, "real": 1, "double": 2, "long": 2}
UNITS = 2000
VARIABLES = 100
LETTERS = 10


def is_variable(units, value):
    """Whether any value is a tuple (name, kind, first, many) of a variable within so many units."""
    if not isinstance(value, tuple) or len(value) != 4:
        return False
    name, kind, first, many = value
    if not is_name(name, LETTERS) or not isinstance(kind, str) or kind not in WIDTHS:
        return False
    if not is_number(first) or not is_number(many) or first < 0 or many < 1:
        return False
    return first + WIDTHS[kind] * many <= units


def check_storage(units, variables):
    """Refuse a wrong number of units, then what are no variables with unlike names."""
    if not is_number(units) or not 1 <= units <= UNITS:
        raise InvalidLayout("units")
    if not isinstance(variables, (list, tuple)) or len(variables) > VARIABLES:
        raise InvalidLayout("variables")
    if not all([is_variable(units, variable) for variable in variables]):
        raise InvalidLayout("variables")
    if len(set([variable[0] for variable in variables])) < len(variables):
        raise InvalidLayout("variables")


def places_by_name(variables):
    """For each name of a variable the tuple (kind, first, many)."""
    return {name: (kind, first, many) for name, kind, first, many in variables}


def cell_of(place, k):
    """The cell of the element with a number, from 1 on, of a variable."""
    kind, first, _ = place
    return kind, first + WIDTHS[kind] * (k - 1)


def cells_of(place):
    """The list of the cells of all elements of a variable."""
    return [cell_of(place, k) for k in range(1, place[2] + 1)]


def cells_touched(cell):
    """The list of all cells that share a unit with a cell, itself among them; there may be no such elements."""
    kind, first = cell
    end = first + WIDTHS[kind]
    return [(other, start) for other, width in WIDTHS.items() for start in range(first - width + 1, end)]
