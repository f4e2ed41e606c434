"""Assignments between two sections of one array, done by loops.

A loop goes through the numbers that the subscripts of a kept part have. The subscripts that two parts share are a
triplet, and so are the numbers at which they are written, those at which they are read, and the LAGS, the first less
the second ones. So what is written ahead of being read is told without going through far sections.
"""

from sectionwise.errors import InvalidArgument, InvalidSection, LimitExceeded
from sectionwise.parts import has, index_of, is_kept, is_number, many_of, met_of, subscript_of
from sectionwise.sections import (
    check_both, check_bounds, has_each_once, is_section, many_in, places_of, shape_of, shared_elements, size_of,
    weights,
)

LOOPS = 4
PLACES = 5000


def check_assignment(bounds, one, other):
    """Refuse what is no assignment of sections without lists, of one shape, with the same parts kept."""
    check_both(bounds, one, other)
    if any([isinstance(part, list) for part in one + other]):
        raise InvalidSection("list")
    if [is_kept(part) for part in one] != [is_kept(part) for part in other]:
        raise InvalidSection("kept")
    if shape_of(one) != shape_of(other):
        raise InvalidSection("shape")


def is_step(value):
    """Whether any value is a tuple (loop, way) of an integer and a way."""
    if not isinstance(value, tuple) or len(value) != 2:
        return False
    return is_number(value[0]) and is_number(value[1]) and value[1] in (1, -1)


def is_order(value, many):
    """Whether any value is an order of so many loops."""
    if not isinstance(value, tuple) or not all([is_step(step) for step in value]):
        return False
    return sorted([loop for loop, _ in value]) == list(range(many))


def check_order(bounds, one, other, order):
    """Refuse what is no such assignment, then what is no order of its loops."""
    check_assignment(bounds, one, other)
    if not is_order(order, len(shape_of(one))):
        raise InvalidArgument("order")


def loops_of(one, other):
    """The list of the two parts of each loop."""
    return [(part, its) for part, its in zip(one, other) if is_kept(part)]


def numbers_in(part, both):
    """The triplet of the numbers that the elements of a normal triplet have in a part that has them all."""
    start, end = index_of(part, both[0]), index_of(part, both[1])
    return start, end, both[2] // part[2] if many_of(both) > 1 else 1


def met_in_loop(pair, way):
    """The triplets of the numbers at which a loop writes and reads what its parts share, the first read first."""
    part, its = pair
    both = met_of(part, its)
    writes, reads = numbers_in(part, both), numbers_in(its, both)
    if reads[2] * way > 0:
        return writes, reads
    return (writes[1], writes[0], -writes[2]), (reads[1], reads[0], -reads[2])


def lags_of(writes, reads):
    """The triplet of the lags; a single one if they are all the same."""
    start, end = writes[0] - reads[0], writes[1] - reads[1]
    if start == end:
        return start, end, 1
    return start, end, writes[2] - reads[2]


def signs_in_loop(pair):
    """The ascending tuple of the signs of the lags of a loop whose parts share something."""
    writes, reads = met_in_loop(pair, 1)
    start, end, change = lags_of(writes, reads)
    told = []
    if min(start, end) < 0:
        told.append(-1)
    if has((start, end, change), 0):
        told.append(0)
    if max(start, end) > 0:
        told.append(1)
    return tuple(told)


def all_signs(one, other):
    """The list of the signs of all loops, () if the sections share no element."""
    loops = loops_of(one, other)
    if not share_elements(one, other):
        return [() for _ in loops]
    return [signs_in_loop(pair) for pair in loops]


def share_elements(one, other):
    """Whether there is an element of both sections."""
    return shared_elements(one, other)[0] > 0


def is_harmed(by_loops, order):
    """Whether, by the signs of the loops, some element is written ahead of being read."""
    for loop, way in order:
        if -way in by_loops[loop]:
            return True
        # If this loop is never at the same number, those within it come too late to matter.
        if 0 not in by_loops[loop]:
            return False
    return False


def first_with_sign(lags, sign):
    """The number of the first lag with the sign 1 or -1, None if there is none."""
    start, _, change = lags
    if start * sign > 0:
        return 0
    if change * sign < 0:
        return None
    at = abs(start) // abs(change) + 1
    return at if at < many_of(lags) else None


def first_clash(one, other, order):
    """The numbers of all loops at which the first element read too late is written, and those at which it is read."""
    loops = loops_of(one, other)
    by_loops = all_signs(one, other)
    write, read = [0 for _ in loops], [0 for _ in loops]
    is_behind = False
    for at, (loop, way) in enumerate(order):
        writes, reads = met_in_loop(loops[loop], way)
        pick = 0
        if not is_behind:
            lags = lags_of(writes, reads)
            behind = first_with_sign(lags, -way)
            # Written and read at the same number of this loop, it may still be read too late by those within it.
            level = index_of(lags, 0) if is_harmed(by_loops, order[at + 1:]) else None
            pick = min([number for number in (behind, level) if number is not None])
            is_behind = pick == behind
        write[loop] = subscript_of(writes, pick)
        read[loop] = subscript_of(reads, pick)
    return tuple(write), tuple(read)


def element_by_loops(section, numbers):
    """The element of a section at the numbers of its loops."""
    element = list(section)
    kept = [at for at, part in enumerate(section) if is_kept(part)]
    for at, number in zip(kept, numbers):
        element[at] = subscript_of(section[at], number)
    return tuple(element)


def unharmed_orders(loops, by_loops):
    """The ascending list of all orders of these loops that, by the signs of each, harm nothing."""
    if len(loops) == 0:
        return [()]
    told = []
    for loop in loops:
        left = [other for other in loops if other != loop]
        # Behind a loop that is never at the same number all orders will do, as without any signs.
        behind = by_loops if 0 in by_loops[loop] else [() for _ in by_loops]
        for way in (-1, 1):
            if -way not in by_loops[loop]:
                told = told + [((loop, way),) + order for order in unharmed_orders(left, behind)]
    return told


def order_found(by_loops):
    """An order that, by the signs of its loops, harms nothing; None if there is none."""
    left = list(range(len(by_loops)))
    order = []
    is_free = False
    while len(left) > 0:
        # Whichever loop can be outermost may be: that never stands in the way of another one.
        steps = [(loop, way) for loop in left for way in (1, -1) if is_free or -way not in by_loops[loop]]
        if len(steps) == 0:
            return None
        loop, way = steps[0]
        order.append((loop, way))
        left.remove(loop)
        is_free = is_free or 0 not in by_loops[loop]
    return tuple(order)


def check_contents(bounds, contents):
    """Refuse an array with too many elements, then what does not have one thing for each of its places."""
    if size_of(bounds) > PLACES:
        raise LimitExceeded(PLACES)
    if not isinstance(contents, (list, tuple)) or len(contents) != size_of(bounds):
        raise InvalidArgument("contents")


def numbers_in_order(lengths, order):
    """The numbers of the elements of a section in the order in which loops of these lengths come to them."""
    jumps = weights([(1, length) for length in lengths])
    told = [0]
    for loop, way in order:
        steps = [number * jumps[loop] for number in range(lengths[loop])][::way]
        told = [ahead + step for ahead in told for step in steps]
    return told


def is_assignment(bounds, value):
    """Whether any value is a tuple of two sections of one shape, the first one without an element twice."""
    if not isinstance(value, tuple) or len(value) != 2:
        return False
    one, other = value
    if not is_section(bounds, one) or not is_section(bounds, other):
        return False
    return has_each_once(one) and shape_of(one) == shape_of(other)


def does(bounds, one, other, order):
    """Whether loops in an order do the assignment: whether no element is read behind its write."""
    check_order(bounds, one, other, order)
    return not is_harmed(all_signs(one, other), order)


def clash(bounds, one, other, order):
    """The tuple (element, write, read) of the first read of an element that was written ahead, None if it does."""
    check_order(bounds, one, other, order)
    if not is_harmed(all_signs(one, other), order):
        return None
    write, read = first_clash(one, other, order)
    return element_by_loops(other, read), write, read


def signs(bounds, one, other):
    """For each loop the ascending tuple of the signs of a - b, for all that is number a of one and b of the other."""
    check_assignment(bounds, one, other)
    return all_signs(one, other)


def good_orders(bounds, one, other):
    """The ascending list of all orders that do the assignment."""
    check_assignment(bounds, one, other)
    many = len(shape_of(one))
    if many > LOOPS:
        raise LimitExceeded(LOOPS)
    return unharmed_orders(list(range(many)), all_signs(one, other))


def good_order(bounds, one, other):
    """An order that does the assignment, None if there is none."""
    check_assignment(bounds, one, other)
    return order_found(all_signs(one, other))


def copy_needed(bounds, one, other):
    """Whether no order does the assignment."""
    check_assignment(bounds, one, other)
    return order_found(all_signs(one, other)) is None


def done(bounds, one, other, contents):
    """The list of the contents behind the assignment, the right side read first."""
    check_both(bounds, one, other)
    if not has_each_once(one):
        raise InvalidSection("twice")
    if shape_of(one) != shape_of(other):
        raise InvalidSection("shape")
    check_contents(bounds, contents)
    told = list(contents)
    for to, source in zip(places_of(bounds, one), places_of(bounds, other)):
        told[to] = contents[source]
    return told


def done_by(bounds, one, other, order, contents):
    """The list of the contents behind the assignment, done element by element by loops in an order."""
    check_order(bounds, one, other, order)
    check_contents(bounds, contents)
    told = list(contents)
    if many_in(one) == 0:
        return told
    to, source = places_of(bounds, one), places_of(bounds, other)
    for number in numbers_in_order(shape_of(one), order):
        told[to[number]] = told[source[number]]
    return told


def may_change_places(bounds, first, last):
    """Whether two assignments write no element that the other one writes or reads."""
    check_bounds(bounds)
    if not is_assignment(bounds, first):
        raise InvalidArgument("first")
    if not is_assignment(bounds, last):
        raise InvalidArgument("last")
    pairs = [(first[0], last[0]), (first[0], last[1]), (last[0], first[1])]
    return not any([share_elements(one, other) for one, other in pairs])
