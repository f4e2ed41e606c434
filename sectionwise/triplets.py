"""Triplets (first, last, step), what they share, and unions of several.

Far triplets are never gone through: what two share is a triplet, and a union is counted by what its triplets share.
"""

from sectionwise.errors import InvalidArgument, InvalidTriplet, LimitExceeded
from sectionwise.parts import (
    FAR, covers, index_of, is_far, is_number, is_same_row, is_triplet, many_of, met_of, normal_of, subscript_of,
)

PIECES = 300
TRIPLETS = 8


def check_triplet(value, name):
    """Refuse the argument of this name if it is no triplet."""
    if not is_triplet(value):
        raise InvalidTriplet(name)


def check_two(one, other):
    """Refuse what is no triplet of two."""
    check_triplet(one, "one")
    check_triplet(other, "other")


def check_triplets(value):
    """Refuse what is no list or tuple of so few triplets."""
    if not isinstance(value, (list, tuple)) or len(value) > TRIPLETS:
        raise InvalidTriplet("triplets")
    if not all([is_triplet(triplet) for triplet in value]):
        raise InvalidTriplet("triplets")


def pieces_of(one, other):
    """The normal triplets of the elements of one that the other has not; both may have steps beyond far numbers."""
    low, high, step = normal_of(one)
    start, end, period = met_of(one, other)
    if many_of((start, end, period)) == 0:
        told = [(low, high, step)]
    else:
        # A single shared element has the step 1: nothing lies between it and another one.
        turns = period // step
        if turns > PIECES:
            raise LimitExceeded(PIECES)
        between = [(start + turn * step, end, period) for turn in range(1, turns)]
        told = [(low, start - step, step)] + between + [(end + step, high, step)]
    return [normal_of(piece) for piece in told if many_of(piece) > 0]


def pieces_beyond(triplet, others, room):
    """The normal triplets of the elements that none of the others has; at most so many for which there is room."""
    pieces = [normal_of(triplet)]
    for other in others:
        left = []
        for piece in pieces:
            left = left + pieces_of(piece, other)
            if len(left) > room:
                raise LimitExceeded(PIECES)
        pieces = left
    return [piece for piece in pieces if many_of(piece) > 0]


def counters(triplets):
    """Signed normal triplets: a number is in the union if it is in one more with the sign 1 than with -1."""
    told = []
    for triplet in triplets:
        # What the triplet shares with those ahead is counted by them already.
        shared = [(-sign, met_of(triplet, ahead)) for sign, ahead in told]
        told = told + [(1, normal_of(triplet))] + shared
        # Those without elements count nothing, and would only be the more to go through.
        told = [(sign, counter) for sign, counter in told if many_of(counter) > 0]
    return told


def many_up_to(told, number):
    """How many numbers of a union, told by its counters, are not above a number."""
    many = 0
    for sign, (low, high, step) in told:
        if low <= number:
            many = many + sign * ((min(high, number) - low) // step + 1)
    return many


def least_with(holds, low, high):
    """The least number from low to high for which something holds; it holds for high, and above each such number."""
    while low < high:
        middle = (low + high) // 2
        if holds(middle):
            high = middle
        else:
            low = middle + 1
    return low


def triplet_size(triplet):
    """How many elements a triplet has."""
    check_triplet(triplet, "triplet")
    return many_of(triplet)


def triplet_element(triplet, index):
    """The element with a number, from 0 on."""
    check_triplet(triplet, "triplet")
    if not is_number(index) or not 0 <= index < many_of(triplet):
        raise InvalidArgument("index")
    return subscript_of(triplet, index)


def triplet_index(triplet, number):
    """The number that an element of a triplet has, None for what is no element."""
    check_triplet(triplet, "triplet")
    if not is_far(number):
        raise InvalidArgument("number")
    return index_of(triplet, number)


def normal(triplet):
    """The normal triplet with the same elements."""
    check_triplet(triplet, "triplet")
    return normal_of(triplet)


def turned(triplet):
    """The triplet with the same elements in the contrary order, the normal one if there are not two."""
    check_triplet(triplet, "triplet")
    low, high, step = normal_of(triplet)
    if triplet[2] < 0 or many_of(triplet) < 2:
        return low, high, step
    return high, low, -step


def is_same_set(one, other):
    """Whether two triplets have the same elements."""
    check_two(one, other)
    return normal_of(one) == normal_of(other)


def is_same_run(one, other):
    """Whether two triplets have the same elements in the same order."""
    check_two(one, other)
    return is_same_row(one, other)


def met(one, other):
    """The normal triplet of the elements that both have."""
    check_two(one, other)
    return met_of(one, other)


def lies_in(one, other):
    """Whether each element of one is an element of the other."""
    check_two(one, other)
    return covers(other, one)


def less(one, other):
    """The list of normal triplets of the elements of one that the other has not."""
    check_two(one, other)
    return pieces_of(one, other)


def apart(triplets):
    """The list of normal triplets of what each of several has beyond those ahead of it."""
    check_triplets(triplets)
    told = []
    for at, triplet in enumerate(triplets):
        told = told + pieces_beyond(triplet, triplets[:at], PIECES - len(told))
    return told


def union_size(triplets):
    """How many numbers are elements of one or more of several triplets."""
    check_triplets(triplets)
    return many_up_to(counters(triplets), FAR)


def union_element(triplets, index):
    """The number of a union that has so many lesser ones in it."""
    check_triplets(triplets)
    told = counters(triplets)
    if not is_number(index) or not 0 <= index < many_up_to(told, FAR):
        raise InvalidArgument("index")
    return least_with(lambda number: many_up_to(told, number) > index, -FAR, FAR)


def first_gap(triplets, low):
    """The least number from low on that is in no triplet of a union."""
    check_triplets(triplets)
    if not is_far(low):
        raise InvalidArgument("low")
    told = counters(triplets)
    ahead = many_up_to(told, low - 1)
    return least_with(lambda number: many_up_to(told, number) - ahead <= number - low, low, FAR + 1)
