"""Arrays of up to seven dimensions, and sections of them.

The functions of the interface stand at the end, and check what they are given; those ahead of them do not, so
that they serve for arrays beyond the bounds of the interface too.
"""

from sectionwise.errors import InvalidArgument, InvalidSection, LimitExceeded
from sectionwise.parts import (
    covers, is_kept, is_number, is_part, is_part_once, is_same_row, last_of, lies_between, many_of, part_of_part,
    shared_subscripts, subscript_of, subscripts,
)

DIMENSIONS = 7
FARTHEST = 5 * 10 ** 29
LISTED = 5000


def is_bounds(value):
    """Whether any value is the bounds of an array."""
    if not isinstance(value, tuple) or not 1 <= len(value) <= DIMENSIONS:
        return False
    return all([is_range(pair) for pair in value])


def is_range(value):
    """Whether any value is the bounds of one dimension."""
    if not isinstance(value, tuple) or len(value) != 2:
        return False
    return all([is_number(number) and -FARTHEST <= number <= FARTHEST for number in value])


def all_extents(bounds):
    """The list of the extents of an array."""
    return [max(0, high - low + 1) for low, high in bounds]


def multiplied(numbers):
    """The product of a list of integers."""
    made = 1
    for number in numbers:
        made = made * number
    return made


def size_of(bounds):
    """How many elements an array has."""
    return multiplied(all_extents(bounds))


def weights(bounds):
    """By how many places the next element lies behind, for each dimension."""
    told = []
    weight = 1
    for extent in all_extents(bounds):
        told.append(weight)
        weight = weight * extent
    return told


def is_element(bounds, value):
    """Whether any value tells an element of an array."""
    if not isinstance(value, tuple) or len(value) != len(bounds):
        return False
    return all([is_number(number) and low <= number <= high for number, (low, high) in zip(value, bounds)])


def place_there(bounds, element):
    """The place of an element of an array."""
    return sum([
        (number - low) * weight
        for number, (low, _), weight in zip(element, bounds, weights(bounds))
    ])


def element_there(bounds, place):
    """The element of an array at a place that has one."""
    element = []
    rest = place
    for (low, _), extent in zip(bounds, all_extents(bounds)):
        element.append(low + rest % extent)
        rest = rest // extent
    return tuple(element)


def is_section(bounds, value):
    """Whether any value is a section of an array."""
    if not isinstance(value, tuple) or len(value) != len(bounds):
        return False
    if not all([is_part(part) for part in value]):
        return False
    if many_in(value) == 0:
        return True
    return all([lies_between(part, low, high) for part, (low, high) in zip(value, bounds)])


def many_in(section):
    """How many elements a section has, each as often as it comes."""
    return multiplied([many_of(part) for part in section])


def shape_of(section):
    """The tuple of the numbers of subscripts of the kept parts of a section."""
    return tuple([many_of(part) for part in section if is_kept(part)])


def has_each_once(section):
    """Whether a section has no element twice."""
    return many_in(section) == 0 or all([is_part_once(part) for part in section])


def element_in(section, index):
    """The element with a number that a section has."""
    element = []
    rest = index
    for part in section:
        many = many_of(part)
        element.append(subscript_of(part, rest % many))
        rest = rest // many
    return tuple(element)


def places_of(bounds, section):
    """The list of the places of all elements of a section, in order."""
    if many_in(section) == 0:
        return []
    found = [0]
    for part, (low, _), weight in zip(section, bounds, weights(bounds)):
        jumps = [(number - low) * weight for number in subscripts(part)]
        found = [place + jump for jump in jumps for place in found]
    return found


def stretches_of(bounds, section):
    """How many stretches a section has: its elements, less those at the place behind the one ahead."""
    many = many_in(section)
    if many == 0:
        return 0
    joined = 0
    rounds = many
    # What the place changes by when all parts ahead turn from their last subscript to their first one.
    turned = 0
    for part, weight in zip(section, weights(bounds)):
        rounds = rounds // many_of(part)
        joined = joined + rounds * joints(part, weight, turned)
        turned = turned + (subscript_of(part, 0) - last_of(part)) * weight
    return many - joined


def joints(part, weight, turned):
    """How often the next subscript of a part leads just one place on, the parts ahead having turned."""
    if isinstance(part, tuple):
        if turned + part[2] * weight == 1:
            return many_of(part) - 1
        return 0
    row = subscripts(part)
    return len([index for index in range(1, len(row)) if turned + (row[index] - row[index - 1]) * weight == 1])


def has_all(section, other):
    """Whether each element of the other section of an array is one of the section."""
    if many_in(other) == 0:
        return True
    return all([covers(part, its) for part, its in zip(section, other)])


def shared_elements(one, other):
    """How many different elements two sections of an array share, and the one with the least place, or None."""
    told = [shared_subscripts(part, its) for part, its in zip(one, other)]
    many = multiplied([number for number, _ in told])
    if many == 0:
        return 0, None
    return many, tuple([least for _, least in told])


def check_bounds(bounds):
    """Refuse what is no bounds."""
    if not is_bounds(bounds):
        raise InvalidSection("bounds")


def check_section(bounds, section, name):
    """Refuse wrong bounds, then the argument of this name if it is no section."""
    check_bounds(bounds)
    if not is_section(bounds, section):
        raise InvalidSection(name)


def check_both(bounds, one, other):
    """Refuse wrong bounds, then what is no section of two."""
    check_section(bounds, one, "one")
    check_section(bounds, other, "other")


def extents(bounds):
    """The tuple of the extents of an array."""
    check_bounds(bounds)
    return tuple(all_extents(bounds))


def place_of(bounds, element):
    """The place of an element."""
    check_bounds(bounds)
    if not is_element(bounds, element):
        raise InvalidSection("element")
    return place_there(bounds, element)


def element_at(bounds, place):
    """The element at a place."""
    check_bounds(bounds)
    if not is_number(place) or not 0 <= place < size_of(bounds):
        raise InvalidArgument("place")
    return element_there(bounds, place)


def shape(bounds, section):
    """The tuple of the numbers of subscripts of the kept parts."""
    check_section(bounds, section, "section")
    return shape_of(section)


def count(bounds, section):
    """How many elements a section has, each as often as it comes."""
    check_section(bounds, section, "section")
    return many_in(section)


def is_once(bounds, section):
    """Whether a section has no element twice."""
    check_section(bounds, section, "section")
    return has_each_once(section)


def element_of(bounds, section, index):
    """The element with a number, from 0 on, in the section's order."""
    check_section(bounds, section, "section")
    if not is_number(index) or not 0 <= index < many_in(section):
        raise InvalidArgument("index")
    return element_in(section, index)


def listed(bounds, section):
    """The list of the places of all elements, in order."""
    check_section(bounds, section, "section")
    if many_in(section) > LISTED:
        raise LimitExceeded(LISTED)
    return places_of(bounds, section)


def composed(bounds, section, inner):
    """The section of the array that inner is of the section."""
    check_section(bounds, section, "section")
    kept = [part for part in section if is_kept(part)]
    if len(kept) == 0 or not is_section([(1, many_of(part)) for part in kept], inner):
        raise InvalidSection("inner")
    if many_in(inner) == 0:
        made = [list(its) if isinstance(its, list) else its for its in inner]
    else:
        made = [part_of_part(part, its) for part, its in zip(kept, inner)]
    told = []
    behind = 0
    for part in section:
        if is_kept(part):
            told.append(made[behind])
            behind = behind + 1
        else:
            told.append(part)
    return tuple(told)


def stretches(bounds, section):
    """Into how many stretches of neighbouring places a section falls."""
    check_section(bounds, section, "section")
    return stretches_of(bounds, section)


def is_contiguous(bounds, section):
    """Whether a section has at most one stretch."""
    check_section(bounds, section, "section")
    return stretches_of(bounds, section) <= 1


def shared(bounds, one, other):
    """How many different elements two sections share, and the one with the least place, None if there is none."""
    check_both(bounds, one, other)
    return shared_elements(one, other)


def includes(bounds, one, other):
    """Whether each element of the second section is one of the first one."""
    check_both(bounds, one, other)
    return has_all(one, other)


def same_set(bounds, one, other):
    """Whether two sections have the same elements."""
    check_both(bounds, one, other)
    return has_all(one, other) and has_all(other, one)


def same_sequence(bounds, one, other):
    """Whether two sections have the same elements in the same order, each as often."""
    check_both(bounds, one, other)
    many = many_in(one)
    if many != many_in(other):
        return False
    if many == 0:
        return True
    if has_each_once(one) or has_each_once(other):
        # To be the same, neither may have one twice; then parts with the same subscripts are as long, and run alike.
        return all([is_same_row(part, its) for part, its in zip(one, other)])
    if many > LISTED:
        raise LimitExceeded(LISTED)
    return places_of(bounds, one) == places_of(bounds, other)
