"""Variables that share units of storage, as rows of members say that begin on the same unit.

A STRETCH is a tuple (group, base, size, many): the group in which the base of a variable is told, how many units
each of its elements has, and how many elements there are.
"""

from sectionwise.errors import InvalidArgument, InvalidLayout
from sectionwise.parts import is_far, is_name, is_number, many_of, met_of
from sectionwise.rings import seats_apart, seats_behind, seats_by, shortest_ring
from sectionwise.sections import DIMENSIONS, is_element, place_there, size_of

LETTERS = 8
UNITS = 16
VARIABLES = 40
ROWS = 40
MEMBERS = 10


def is_range(value):
    """Whether any value is a pair (low, high) of bounds."""
    if not isinstance(value, tuple) or len(value) != 2:
        return False
    return is_far(value[0]) and is_far(value[1]) and value[0] <= value[1]


def is_variable(value):
    """Whether any value is a tuple (name, size, bounds)."""
    if not isinstance(value, tuple) or len(value) != 3:
        return False
    name, size, bounds = value
    if not is_name(name, LETTERS) or not is_number(size) or not 1 <= size <= UNITS:
        return False
    return isinstance(bounds, tuple) and len(bounds) <= DIMENSIONS and all([is_range(pair) for pair in bounds])


def names_of(variables):
    """The list of the names of variables."""
    return [name for name, _, _ in variables]


def are_variables(value):
    """Whether any value is a list or tuple of so many variables with unlike names."""
    if not isinstance(value, (list, tuple)) or not 1 <= len(value) <= VARIABLES:
        return False
    if not all([is_variable(variable) for variable in value]):
        return False
    return len(set(names_of(value))) == len(value)


def sizes_and_bounds(variables):
    """For each name of a variable its size and its bounds."""
    return {name: (size, bounds) for name, size, bounds in variables}


def is_member(table, value):
    """Whether any value is a tuple (name, subscripts) of a variable of a table."""
    if not isinstance(value, tuple) or len(value) != 2:
        return False
    name, subscripts = value
    if not isinstance(name, str) or name not in table or not isinstance(subscripts, tuple):
        return False
    return len(subscripts) == 0 or is_element(table[name][1], subscripts)


def is_row(table, value):
    """Whether any value is a row of members."""
    if not isinstance(value, (list, tuple)) or not 2 <= len(value) <= MEMBERS:
        return False
    return all([is_member(table, member) for member in value])


def are_rows(variables, value):
    """Whether any value is a list or tuple of so few rows."""
    if not isinstance(value, (list, tuple)) or len(value) > ROWS:
        return False
    table = sizes_and_bounds(variables)
    return all([is_row(table, row) for row in value])


def check_variables(variables):
    """Refuse what are no variables."""
    if not are_variables(variables):
        raise InvalidLayout("variables")


def check_rows(variables, rows):
    """Refuse what are no rows of variables that are right."""
    if not are_rows(variables, rows):
        raise InvalidLayout("rows")


def check_layout(variables, rows):
    """Refuse what are no variables, then what are no rows of them."""
    check_variables(variables)
    check_rows(variables, rows)


def lines_of(variables, rows):
    """The list of the lines of rows, each with its number."""
    table = sizes_and_bounds(variables)
    return [(number, [(name, units_ahead(table[name], at)) for name, at in row]) for number, row in enumerate(rows)]


def units_ahead(kind, subscripts):
    """How many units lie ahead of an element of a variable with this size and these bounds."""
    size, bounds = kind
    return size * place_there(bounds, subscripts)


def stretches_of(variables, seats):
    """For each name the stretch of its variable."""
    return {name: seats[name] + (size, size_of(bounds)) for name, size, bounds in variables}


def end_of(stretch):
    """The unit behind the last one of a stretch."""
    _, base, size, many = stretch
    return base + size * many


def shared_units(stretch, other):
    """The first unit that two stretches share, and the one behind the last, None if they share none."""
    if stretch[0] != other[0]:
        return None
    start, end = max(stretch[1], other[1]), min(end_of(stretch), end_of(other))
    return (start, end) if start < end else None


def touched_by(stretch, number, other):
    """The numbers of the first and the last element of another stretch that have a unit of an element, or None."""
    group, base, size, _ = stretch
    both = shared_units((group, base + number * size, size, 1), other)
    if both is None:
        return None
    _, its_base, its_size, _ = other
    return (both[0] - its_base) // its_size, (both[1] - 1 - its_base) // its_size


def begins_within(stretch, both):
    """The triplet of the first units of elements of a stretch within the shared units, behind the first of these."""
    _, base, size, _ = stretch
    start, end = both
    return base + ((start - base) // size + 1) * size, end - 1, size


def check_name(stretches, value, part):
    """Refuse the argument of this name if it is no name of a variable."""
    if not isinstance(value, str) or value not in stretches:
        raise InvalidArgument(part)


def check_number(stretch, value):
    """Refuse what is no number of an element."""
    if not is_number(value) or not 0 <= value < stretch[3]:
        raise InvalidArgument("number")


def two_stretches(variables, rows, one, other):
    """The stretches of two variables that are told by what may be their names."""
    check_layout(variables, rows)
    seats = seats_by(names_of(variables), lines_of(variables, rows))
    if seats is None:
        raise InvalidLayout("ring")
    stretches = stretches_of(variables, seats)
    check_name(stretches, one, "one")
    check_name(stretches, other, "other")
    return stretches[one], stretches[other]


def in_order(names, seats):
    """The list of tuples (name, group, offset) of variables, as offsets tells them."""
    firsts, lowest = {}, {}
    for name in names:
        group, base = seats[name]
        firsts.setdefault(group, name)
        lowest[group] = min(base, lowest.get(group, base))
    return [(name, firsts[seats[name][0]], seats[name][1] - lowest[seats[name][0]]) for name in names]


def offsets(variables, rows):
    """For each variable a tuple (name, group, offset), None if the rows cannot all hold."""
    check_layout(variables, rows)
    seats = seats_by(names_of(variables), lines_of(variables, rows))
    return None if seats is None else in_order(names_of(variables), seats)


def are_bases(variables, rows, thing):
    """Whether any object is a list or tuple of an integer for each variable, bases with which all rows hold."""
    check_layout(variables, rows)
    if not isinstance(thing, (list, tuple)) or len(thing) != len(variables):
        return False
    if not all([is_number(base) for base in thing]):
        return False
    bases = {name: base for name, base in zip(names_of(variables), thing)}
    for _, members in lines_of(variables, rows):
        if len({bases[name] + ahead for name, ahead in members}) > 1:
            return False
    return True


def idle(variables, rows):
    """The ascending list of the numbers of rows that hold where those ahead do, None if they cannot all hold."""
    check_layout(variables, rows)
    seats = seats_apart(names_of(variables))
    told = []
    for number, members in lines_of(variables, rows):
        behind = seats_behind(seats, members)
        if behind is None:
            return None
        if behind == seats:
            told.append(number)
        seats = behind
    return told


def is_step(lines, value):
    """Whether any value is a step (row, at, to) of lines."""
    if not isinstance(value, tuple) or len(value) != 3 or not all([is_number(number) for number in value]):
        return False
    row, at, to = value
    if not 0 <= row < len(lines):
        return False
    many = len(lines[row][1])
    return 0 <= at < many and 0 <= to < many and at != to


def is_ring(variables, rows, thing):
    """Whether any object is a ring."""
    check_layout(variables, rows)
    lines = lines_of(variables, rows)
    if not isinstance(thing, (list, tuple)) or len(thing) == 0:
        return False
    if not all([is_step(lines, step) for step in thing]):
        return False
    ends = [(lines[row][1][at], lines[row][1][to]) for row, at, to in thing]
    here = ends[-1][1][0]
    units = 0
    for (name, ahead), (to, its_ahead) in ends:
        if name != here:
            return False
        here = to
        units = units + ahead - its_ahead
    return units != 0


def ring(variables, rows):
    """A ring with as few steps as there can be, a tuple; None if all rows can hold."""
    check_layout(variables, rows)
    return shortest_ring(names_of(variables), lines_of(variables, rows))


def shared(variables, rows, one, other):
    """How many units of a variable lie ahead of those that it shares with another one, and how many these are."""
    its, others = two_stretches(variables, rows, one, other)
    both = shared_units(its, others)
    return None if both is None else (both[0] - its[1], both[1] - both[0])


def touched(variables, rows, one, number, other):
    """The first and the last number of the elements of a variable with a unit of an element of another, or None."""
    its, others = two_stretches(variables, rows, one, other)
    check_number(its, number)
    return touched_by(its, number, others)


def pairs_number(variables, rows, one, other):
    """How many pairs there are of elements of two variables that have a unit in common."""
    its, others = two_stretches(variables, rows, one, other)
    both = shared_units(its, others)
    if both is None:
        return 0
    begins, others_begin = begins_within(its, both), begins_within(others, both)
    return 1 + many_of(begins) + many_of(others_begin) - many_of(met_of(begins, others_begin))


def twins_number(variables, rows, one, other):
    """How many pairs there are of elements of two variables that lie on just the same units."""
    its, others = two_stretches(variables, rows, one, other)
    both = shared_units(its, others)
    if both is None or its[2] != others[2] or (its[1] - others[1]) % its[2] != 0:
        return 0
    return (both[1] - both[0]) // its[2]
