"""The n at which two families share elements, and at which an assignment between them reads what it wrote ahead.

An assignment of families is, at an n, one of two triplets that is done by a single loop.
"""

from math import lcm

from sectionwise.assigns import first_with_sign, lags_of, met_in_loop
from sectionwise.errors import InvalidArgument
from sectionwise.families import (
    Family, check_families, even_ends, even_size, set_over, size_marks, triplet_there,
)
from sectionwise.nsets import NSet, check_from_zero, common_period, complement, set_of, union
from sectionwise.parts import covers, many_of, met_of, subscript_of

WAYS = {"forward": 1, "backward": -1}


def shared_ends(triplet, other):
    """For each of two triplets the least and the greatest number, of those that both steps reach, in its range.

    They change evenly; none are told where the steps never meet.
    """
    first, _, step = triplet
    reached = [first + turn * step for turn in range(abs(other[2]))]
    common = [number for number in reached if (number - other[0]) % other[2] == 0]
    if len(common) == 0:
        return [], []
    period = lcm(step, other[2])
    least, greatest = [], []
    for low, high in (even_ends(triplet), even_ends(other)):
        least.append(low + (common[0] - low) % period)
        greatest.append(high - (high - common[0]) % period)
    return least, greatest


def shared_marks(triplet, other):
    """What tells whether two triplets share an element."""
    least, greatest = shared_ends(triplet, other)
    return [even_size(triplet), even_size(other)] + [end - start for start in least for end in greatest]


def inside_marks(triplet, other):
    """What tells whether each element of a triplet is one of the other."""
    low, high = even_ends(triplet)
    its_low, its_high = even_ends(other)
    many = even_size(triplet)
    return [many, many - 1, even_size(other), low - its_low, its_high - high]


def lag_at(triplet, other, number):
    """By how much an element of two triplets comes later in the first one than in the other one."""
    return (number - triplet[0]) // triplet[2] - (number - other[0]) // other[2]


def clash_marks(triplet, other):
    """What tells whether an assignment of two triplets clashes."""
    least, greatest = shared_ends(triplet, other)
    # Lags change evenly from the least shared element on: what they are at its ends they are at some shared element.
    lags = [lag_at(triplet, other, end) for end in least + greatest]
    return size_marks(triplet, other) + shared_marks(triplet, other) + lags


def share_some(triplet, other):
    """Whether two triplets share an element."""
    return many_of(met_of(triplet, other)) > 0


def clash_in(triplet, other, way):
    """The first tuple (element, k, j) of what is read too late, None if nothing is, or the sizes are unlike."""
    if many_of(triplet) != many_of(other) or not share_some(triplet, other):
        return None
    writes, reads = met_in_loop((triplet, other), way)
    pick = first_with_sign(lags_of(writes, reads), -way)
    if pick is None:
        return None
    place = subscript_of(reads, pick)
    return subscript_of(other, place), subscript_of(writes, pick), place


def clashes_in(triplet, other, way):
    """Whether an assignment of two triplets clashes."""
    return clash_in(triplet, other, way) is not None


def check_order(value):
    """Refuse what is no order of an assignment."""
    if not isinstance(value, str) or value not in WAYS:
        raise InvalidArgument("order")


def is_assignment(value):
    """Whether any value is a tuple (name, family, name, family)."""
    if not isinstance(value, tuple) or len(value) != 4:
        return False
    name, family, source, other = value
    return (
        isinstance(name, str) and isinstance(family, Family)
        and isinstance(source, str) and isinstance(other, Family)
    )


def shares(one, other):
    """The set of all n at which there is an element of both families."""
    check_families(one, other)
    return set_over(one, other, shared_marks, share_some)


def inside(one, other):
    """The set of all n at which each element of one family is an element of the other."""
    check_families(one, other)
    return set_over(one, other, inside_marks, lambda triplet, its: covers(its, triplet))


def least_shared(one, other, n):
    """The least element of both families at n, None if there is none."""
    check_families(one, other)
    check_from_zero(n, "n")
    both = met_of(triplet_there(one, n), triplet_there(other, n))
    return both[0] if many_of(both) > 0 else None


def clashes(one, other, order):
    """The set of all n at which both families have as many elements, and the assignment clashes in this order."""
    check_families(one, other)
    check_order(order)
    way = WAYS[order]
    return set_over(one, other, clash_marks, lambda triplet, its: clashes_in(triplet, its, way))


def needs_copy(one, other):
    """The set of all n at which the assignment clashes in both orders."""
    check_families(one, other)
    return set_over(
        one, other, clash_marks,
        lambda triplet, its: clashes_in(triplet, its, 1) and clashes_in(triplet, its, -1),
    )


def first_clash(one, other, n, order):
    """The tuple (element, k, j) of what is read too late first at n, None if nothing is."""
    check_families(one, other)
    check_from_zero(n, "n")
    check_order(order)
    return clash_in(triplet_there(one, n), triplet_there(other, n), WAYS[order])


def may_swap(first, last):
    """The set of all n at which neither of two assignments writes what the other one writes or reads."""
    if not is_assignment(first):
        raise InvalidArgument("first")
    if not is_assignment(last):
        raise InvalidArgument("last")
    pairs = [(first[:2], last[:2]), (first[:2], last[2:]), (last[:2], first[2:])]
    told = NSet([])
    for (name, family), (other_name, other) in pairs:
        if name == other_name:
            told = union(told, shares(family, other))
    # The set comes from all four families, also from those that share nothing by their names.
    steps = [family.step for family in first[1::2] + last[1::2]]
    return set_of(common_period(steps), complement(told).segments)
