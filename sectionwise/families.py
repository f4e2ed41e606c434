"""Families of triplets whose bounds are linear in n, and the n at which two of them are alike.

The functions that two families share with sectionwise.clashes take the triplets at an n, which may have no elements:
what they tell as marks changes evenly with n, also where it counts elements below 0.
"""

from math import lcm

from sectionwise.errors import InvalidArgument, InvalidFamily
from sectionwise.nsets import check_from_zero
from sectionwise.parts import is_number, is_same_row, many_of, normal_of
from sectionwise.patterns import set_where

LARGEST = 10 ** 6
STEP = 12


def is_form(value):
    """Whether any value is a form (a, b), which stands for a + b * n."""
    if not isinstance(value, tuple) or len(value) != 2:
        return False
    return all([is_number(number) and -LARGEST <= number <= LARGEST for number in value])


def is_step(value):
    """Whether any value is the step of a family."""
    return is_number(value) and -STEP <= value <= STEP and value != 0


def value_at(form, n):
    """The value of a form at n."""
    return form[0] + form[1] * n


class Family:
    """The triplets from the value of one form to that of another one, by a step, for all n."""

    def __init__(self, first, last, step):
        if not is_form(first):
            raise InvalidFamily("first")
        if not is_form(last):
            raise InvalidFamily("last")
        if not is_step(step):
            raise InvalidFamily("step")
        self.first = first
        self.last = last
        self.step = step

    def __eq__(self, other):
        """Whether the other one is a family with the same forms and the same step."""
        return (
            isinstance(other, Family) and self.first == other.first and self.last == other.last
            and self.step == other.step
        )


def triplet_there(family, n):
    """The triplet of a family at an n that is right."""
    return value_at(family.first, n), value_at(family.last, n), family.step


def even_size(triplet):
    """How many elements a triplet has; where it has none, a number up to 0 that changes evenly."""
    first, last, step = triplet
    return (last - first + step) // step


def even_ends(triplet):
    """The least and the greatest element of a triplet; where it has none, numbers that change evenly."""
    first, _, step = triplet
    end = first + (even_size(triplet) - 1) * step
    return (first, end) if step > 0 else (end, first)


def size_marks(triplet, other):
    """What tells whether two triplets have as many elements."""
    many, its = even_size(triplet), even_size(other)
    return [many, its, many - its]


def row_marks(triplet, other):
    """What tells whether two triplets have the same elements in the same order."""
    return size_marks(triplet, other) + [even_size(triplet) - 1, triplet[0] - other[0]]


def range_marks(triplet, other):
    """What tells whether two triplets have the same elements."""
    return size_marks(triplet, other) + [even_size(triplet) - 1, even_ends(triplet)[0] - even_ends(other)[0]]


def within_marks(triplet, low, high):
    """What tells whether a triplet lies between two numbers."""
    least, greatest = even_ends(triplet)
    return [even_size(triplet), least - low, high - greatest]


def lies_within(triplet, low, high):
    """Whether no element of a triplet is below a number, or above another one."""
    least, greatest = even_ends(triplet)
    return many_of(triplet) == 0 or (low <= least and greatest <= high)


def check_family(value, name):
    """Refuse the argument of this name if it is no family."""
    if not isinstance(value, Family):
        raise InvalidArgument(name)


def check_families(one, other):
    """Refuse what is no family of two."""
    check_family(one, "one")
    check_family(other, "other")


def set_over(one, other, marks, holds):
    """The set of all n at which something holds for the triplets of two families, which have these marks."""
    return set_where(
        lcm(one.step, other.step),
        lambda n: marks(triplet_there(one, n), triplet_there(other, n)),
        lambda n: holds(triplet_there(one, n), triplet_there(other, n)),
    )


def triplet_at(family, n):
    """The triplet of a family at n."""
    check_family(family, "family")
    check_from_zero(n, "n")
    return triplet_there(family, n)


def size_at(family, n):
    """How many elements a family has at n."""
    check_family(family, "family")
    check_from_zero(n, "n")
    return many_of(triplet_there(family, n))


def alike_sizes(one, other):
    """The set of all n at which two families have as many elements."""
    check_families(one, other)
    return set_over(one, other, size_marks, lambda triplet, its: many_of(triplet) == many_of(its))


def same_sequence(one, other):
    """The set of all n at which two families have the same elements in the same order."""
    check_families(one, other)
    return set_over(one, other, row_marks, is_same_row)


def same_elements(one, other):
    """The set of all n at which two families have the same elements."""
    check_families(one, other)
    return set_over(one, other, range_marks, lambda triplet, its: normal_of(triplet) == normal_of(its))


def within(family, low, high):
    """The set of all n at which no element of a family is below the value of one form, or above that of another one."""
    check_family(family, "family")
    if not is_form(low):
        raise InvalidArgument("low")
    if not is_form(high):
        raise InvalidArgument("high")
    return set_where(
        abs(family.step),
        lambda n: within_marks(triplet_there(family, n), value_at(low, n), value_at(high, n)),
        lambda n: lies_within(triplet_there(family, n), value_at(low, n), value_at(high, n)),
    )
