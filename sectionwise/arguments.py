"""Arrays that are handed on as arguments, and the dummies as which they are received.

A HOLDER is what hands on: a tuple (bounds, many), the bounds of an array or a dummy, perhaps an open one, and how
many places it has. Places in a holder are counted from its own first one.
"""

from sectionwise.errors import InvalidArgument, InvalidSection, LimitExceeded
from sectionwise.parts import is_number
from sectionwise.sections import (
    check_bounds, element_in, element_there, is_bounds, is_element, is_section, many_in, place_there, places_of,
    size_of, stretches_of,
)

HANDS = 8
ROWS = 8
SIGNS = 12
REACHED = 5000


def is_open(bounds):
    """Whether what may be the bounds of a dummy has no last high bound."""
    if not isinstance(bounds, tuple) or len(bounds) == 0:
        return False
    last = bounds[-1]
    return isinstance(last, tuple) and len(last) == 2 and last[1] is None


def is_dummy(value):
    """Whether any value is the bounds of a dummy."""
    if is_open(value):
        low = value[-1][0]
        return is_bounds(value[:-1] + ((low, low),))
    return is_bounds(value)


def with_rows(holder, more):
    """The bounds of the whole rows of a holder that have a place, and of so many more."""
    bounds, many = holder
    low = bounds[-1][0]
    # Of rows that have no elements there may be any number.
    rows = many // max(1, size_of(bounds[:-1])) + more
    return bounds[:-1] + ((low, low + rows - 1),)


def whole_rows(holder):
    """The bounds of all that sections of a holder may reach: all of it, unless it is open with a last row cut off."""
    return with_rows(holder, 0)


def rows_and_rest(holder):
    """Bounds in which all elements of a holder stand; those that have no place in it are to be left out."""
    return with_rows(holder, 1)


def place_in(holder, element):
    """The place of any value that tells an element, None if it tells none."""
    bounds = rows_and_rest(holder)
    if not is_element(bounds, element):
        return None
    place = place_there(bounds, element)
    return place if place < holder[1] else None


def element_in_holder(holder, place):
    """The element at any number as a place, None if there is none."""
    bounds = rows_and_rest(holder)
    if not 0 <= place < min(holder[1], size_of(bounds)):
        return None
    return element_there(bounds, place)


def part_handed(holder, part):
    """The first place of a part of a holder, and how many there are."""
    if part == "whole":
        return 0, holder[1]
    if not isinstance(part, tuple) or len(part) != 2:
        raise InvalidSection("part")
    word, told = part
    if word == "section":
        return section_handed(whole_rows(holder), told)
    if word != "from":
        raise InvalidSection("part")
    place = place_in(holder, told)
    if place is None:
        raise InvalidSection("part")
    return place, holder[1] - place


def section_handed(bounds, section):
    """The first place of a section that is contiguous, and how many there are."""
    if not is_section(bounds, section):
        raise InvalidSection("part")
    many = many_in(section)
    if many == 0:
        return 0, 0
    if stretches_of(bounds, section) > 1:
        raise InvalidSection("gaps")
    return place_there(bounds, element_in(section, 0)), many


def received(holder, part, dummy):
    """The place of a holder at which a dummy begins, and the dummy as a holder."""
    first, many = part_handed(holder, part)
    if not is_dummy(dummy):
        raise InvalidSection("dummy")
    if is_open(dummy):
        return first, (dummy, many)
    if size_of(dummy) > many:
        raise InvalidSection("size")
    return first, (dummy, size_of(dummy))


def of_array(bounds):
    """An array as a holder."""
    check_bounds(bounds)
    return bounds, size_of(bounds)


def handed(bounds, part):
    """The first place of a part of an array, and how many there are."""
    return part_handed(of_array(bounds), part)


def seated(bounds, part, dummy):
    """The place of the array at which a dummy begins, and how many places it has."""
    first, its = received(of_array(bounds), part, dummy)
    return first, its[1]


def dummy_place(bounds, part, dummy, element):
    """The place in the array of an element of a dummy."""
    first, its = received(of_array(bounds), part, dummy)
    place = place_in(its, element)
    if place is None:
        raise InvalidSection("element")
    return first + place


def dummy_element(bounds, part, dummy, place):
    """The element of a dummy at a place of the array, None if there is none."""
    holder = of_array(bounds)
    first, its = received(holder, part, dummy)
    if not is_number(place) or not 0 <= place < holder[1]:
        raise InvalidArgument("place")
    return element_in_holder(its, place - first)


def is_hand(value):
    """Whether any value is a tuple of what may be a part and a dummy."""
    return isinstance(value, tuple) and len(value) == 2


def handed_on(bounds, hands):
    """The place of the array at which the last one of several dummies begins, and how many places it has."""
    holder = of_array(bounds)
    if not isinstance(hands, (list, tuple)) or not 1 <= len(hands) <= HANDS:
        raise InvalidArgument("hands")
    if not all([is_hand(hand) for hand in hands]):
        raise InvalidArgument("hands")
    begin = 0
    for part, dummy in hands:
        first, holder = received(holder, part, dummy)
        begin = begin + first
    return begin, holder[1]


def is_row(value):
    """Whether any value is a tuple of a name and what may be the rest of a row of a call."""
    if not isinstance(value, tuple) or len(value) != 6:
        return False
    return isinstance(value[0], str) and 1 <= len(value[0]) <= SIGNS


def is_equal(one, other):
    """Whether two values are equal, or the same one; raises what comparing them raises."""
    # In a tuple even a value that is not equal to itself is the same as itself.
    return (one,) == (other,)


def is_alike(one, other):
    """Whether two values of any kind are equal, or the same one."""
    try:
        return is_equal(one, other)
    except LimitExceeded:
        # Sets of numbers with periods too unlike to be compared are not the same bounds: they are none.
        return False


def is_call(rows):
    """Whether any value is a list or tuple of such rows, those of one name with the same bounds."""
    if not isinstance(rows, (list, tuple)) or not 1 <= len(rows) <= ROWS:
        return False
    if not all([is_row(row) for row in rows]):
        return False
    bounds_by_name = {}
    for row in rows:
        name, bounds = row[:2]
        if not is_alike(bounds_by_name.setdefault(name, bounds), bounds):
            return False
    return True


def places_reached(first, holder, section, name):
    """The places of the array that a section of a dummy reaches, none for None; name tells it in errors."""
    if section is None:
        return []
    bounds = whole_rows(holder)
    if not is_section(bounds, section):
        raise InvalidSection(name)
    if many_in(section) > REACHED:
        raise LimitExceeded(REACHED)
    return [first + place for place in places_of(bounds, section)]


def uses(row):
    """The name of the array of a row, the list of the places that are written, and that of all that are reached."""
    name, bounds, part, dummy, written, read = row
    first, its = received(of_array(bounds), part, dummy)
    writes = places_reached(first, its, written, "written")
    reads = places_reached(first, its, read, "read")
    return name, writes, writes + reads


def call_clash(rows):
    """The least clash (name, place, at, to) of two rows of a call, None if there is none."""
    if not is_call(rows):
        raise InvalidArgument("rows")
    for row in rows:
        check_bounds(row[1])
    told = [uses(row) for row in rows]
    clashes = []
    for to, (other, _, reached) in enumerate(told):
        is_reached = {place: True for place in reached}
        for at, (name, writes, _) in enumerate(told):
            if at == to or name != other:
                continue
            both = [place for place in writes if place in is_reached]
            if len(both) > 0:
                clashes.append((name, min(both), at, to))
    return min(clashes, default=None)
