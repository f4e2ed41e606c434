"""Integers, triplets and parts of sections, as the other modules use them.

A part is an integer, a triplet (first, last, step), or a list of integers. Where a function does not tell of any
value, its parts are taken to be right already. Parts are compared without going through more subscripts than a
list may have.
"""

FAR = 10 ** 30
LIST_LIMIT = 64
LETTERS = "abcdefghijklmnopqrstuvwxyz"


def is_number(value):
    """Whether any value is an integer; True and False are none."""
    return isinstance(value, int) and not isinstance(value, bool)


def is_far(value):
    """Whether any value is a far number."""
    return is_number(value) and -FAR <= value <= FAR


def is_name(value, most):
    """Whether any value is a name of one to so many small letters."""
    if not isinstance(value, str) or not 1 <= len(value) <= most:
        return False
    return all([letter in LETTERS for letter in value])


def is_triplet(value):
    """Whether any value is a triplet."""
    if not isinstance(value, tuple) or len(value) != 3:
        return False
    return all([is_far(number) for number in value]) and value[2] != 0


def is_part(value):
    """Whether any value is a part of a section of some array."""
    if isinstance(value, list):
        return len(value) <= LIST_LIMIT and all([is_far(number) for number in value])
    return is_far(value) or is_triplet(value)


def is_kept(part):
    """Whether a section has a dimension for this part."""
    return not is_number(part)


def many_of(part):
    """How many subscripts a part has."""
    if isinstance(part, list):
        return len(part)
    if isinstance(part, tuple):
        first, last, step = part
        return max(0, (last - first + step) // step)
    return 1


def subscript_of(part, index):
    """The subscript with a number, from 0 on."""
    if isinstance(part, list):
        return part[index]
    if isinstance(part, tuple):
        return part[0] + index * part[2]
    return part


def last_of(part):
    """The last subscript of a part that has some; of a triplet without any the number ahead of its first one."""
    return subscript_of(part, many_of(part) - 1)


def subscripts(part):
    """The list of all subscripts, in order."""
    return [subscript_of(part, index) for index in range(many_of(part))]


def index_of(triplet, number):
    """The number, from 0 on, that an element of a triplet has, None for what is none."""
    index, rest = divmod(number - triplet[0], triplet[2])
    if rest != 0 or not 0 <= index < many_of(triplet):
        return None
    return index


def has(part, number):
    """Whether a number is a subscript of a part."""
    if isinstance(part, tuple):
        return index_of(part, number) is not None
    return number in subscripts(part)


def lies_between(part, low, high):
    """Whether all subscripts of a part that has some lie from low to high."""
    if isinstance(part, tuple):
        ends = [part[0], last_of(part)]
    else:
        ends = subscripts(part)
    return all([low <= number <= high for number in ends])


def is_part_once(part):
    """Whether a part has no subscript twice."""
    return not isinstance(part, list) or len(set(part)) == len(part)


def covers(part, other):
    """Whether each subscript of the other part is one of the part."""
    many = many_of(other)
    if many > 2 and isinstance(part, tuple) and isinstance(other, tuple):
        # With two neighbours the part has the other one's step, with both ends its range.
        marks = [subscript_of(other, 0), subscript_of(other, 1), last_of(other)]
        return all([has(part, number) for number in marks])
    return many <= LIST_LIMIT and all([has(part, number) for number in subscripts(other)])


def is_same_row(part, other):
    """Whether two parts have the same subscripts in the same order."""
    many = many_of(part)
    if many != many_of(other):
        return False
    if many > 1 and isinstance(part, tuple) and isinstance(other, tuple):
        return part[0] == other[0] and part[2] == other[2]
    return many <= LIST_LIMIT and subscripts(part) == subscripts(other)


def shared_subscripts(part, other):
    """How many different subscripts two parts share, and the least one, None if there is none."""
    both = met_part(part, other)
    many = many_of(both)
    if many == 0:
        return 0, None
    return many, subscript_of(both, 0)


def met_part(part, other):
    """The different subscripts that two parts share, ascending: a normal triplet if both are triplets, or a list."""
    if isinstance(part, tuple) and isinstance(other, tuple):
        return met_of(part, other)
    if isinstance(part, tuple):
        return met_part(other, part)
    return sorted({number for number in subscripts(part) if has(other, number)})


def normal_of(triplet):
    """The normal triplet with the same elements."""
    many = many_of(triplet)
    if many == 0:
        return 0, -1, 1
    if many == 1:
        return triplet[0], triplet[0], 1
    return upward(triplet)


def met_of(triplet, other):
    """The normal triplet of the elements that two triplets share."""
    low, high, step = upward(triplet)
    other_low, other_high, other_step = upward(other)
    divisor, factor = divisor_and_factor(step, other_step)
    if (other_low - low) % divisor != 0:
        return 0, -1, 1
    turns = (other_low - low) // divisor * factor
    period = step * (other_step // divisor)
    start = max(low, other_low)
    least = start + (low + step * turns - start) % period
    return normal_of((least, min(high, other_high), period))


def upward(triplet):
    """The least and the greatest element of a triplet, and its step above 0; without elements, the least is greater."""
    if triplet[2] > 0:
        return triplet[0], last_of(triplet), triplet[2]
    return last_of(triplet), triplet[0], -triplet[2]


def divisor_and_factor(number, modulus):
    """The greatest common divisor, and a factor by which the number becomes it, modulo the modulus."""
    divisor, rest = number, modulus
    factor, next_factor = 1, 0
    while rest != 0:
        times = divisor // rest
        divisor, rest = rest, divisor - times * rest
        factor, next_factor = next_factor, factor - times * next_factor
    return divisor, factor


def part_of_part(part, inner):
    """The part of the subscripts of a part with the numbers, counted from 1, that inner has."""
    if not is_kept(inner):
        return subscript_of(part, inner - 1)
    if isinstance(part, list) or isinstance(inner, list):
        return [subscript_of(part, number - 1) for number in subscripts(inner)]
    first = subscript_of(part, inner[0] - 1)
    last = subscript_of(part, last_of(inner) - 1)
    if many_of(inner) == 1:
        return first, last, 1
    return first, last, part[2] * inner[2]
