"""What the tests compare with: plain counts of all elements, told without the package.

Nothing here is clever; it goes through all elements, so it serves for small arrays only.
"""

import itertools

FAR = 10 ** 30
FARTHEST = 5 * 10 ** 29


def is_number(value):
    return type(value) is int


def is_far(value):
    return type(value) is int and -FAR <= value <= FAR


def is_bounds(value):
    if type(value) is not tuple or len(value) not in (1, 2, 3, 4, 5, 6, 7):
        return False
    for pair in value:
        if type(pair) is not tuple or len(pair) != 2:
            return False
        for number in pair:
            if type(number) is not int or abs(number) > FARTHEST:
                return False
    return True


def is_part(value):
    if type(value) is list:
        return len(value) < 65 and all(is_far(number) for number in value)
    if type(value) is tuple:
        return len(value) == 3 and all(is_far(number) for number in value) and value[2] != 0
    return is_far(value)


def numbers(part):
    """All subscripts of a part, in order."""
    if type(part) is int:
        return [part]
    if type(part) is list:
        return list(part)
    first, last, step = part
    found = []
    number = first
    while (step > 0 and number <= last) or (step < 0 and number >= last):
        found.append(number)
        number += step
    return found


def is_section(bounds, value):
    if type(value) is not tuple or len(value) != len(bounds):
        return False
    if not all(is_part(part) for part in value):
        return False
    rows = [ends(part) for part in value]
    if [] in rows:
        return True
    return all(low <= number <= high for row, (low, high) in zip(rows, bounds) for number in row)


def ends(part):
    """Some subscripts of a part, among them the least and the greatest one; they may be too many to go through."""
    if type(part) is not tuple:
        return numbers(part)
    first, last, step = part
    row = range(first, last + (1 if step > 0 else -1), step)
    return [row[0], row[-1]] if row else []


def is_element(bounds, value):
    if type(value) is not tuple or len(value) != len(bounds):
        return False
    return all(type(number) is int and low <= number <= high for number, (low, high) in zip(value, bounds))


def elements(section):
    """All elements of a section, in order."""
    rows = [numbers(part) for part in section]
    return [tuple(reversed(row)) for row in itertools.product(*reversed(rows))]


def array(bounds):
    """All elements of an array, in order."""
    return elements(tuple((low, high, 1) for low, high in bounds))


def places(bounds, section):
    """The places of all elements of a section, in order."""
    there = {element: place for place, element in enumerate(array(bounds))}
    return [there[element] for element in elements(section)]


def stretches(row):
    """How many stretches a list of places falls into."""
    many = 0
    for at, place in enumerate(row):
        if at == 0 or place != row[at - 1] + 1:
            many += 1
    return many


def composed_elements(section, inner):
    """The elements of a section of a section, in order."""
    kept = [numbers(part) for part in section if type(part) is not int]
    found = []
    for chosen in elements(inner):
        picked = iter([row[number - 1] for row, number in zip(kept, chosen)])
        found.append(tuple(part if type(part) is int else next(picked) for part in section))
    return found


class Holder:
    """An array or a dummy: its elements in order, its places in the array, and the place where it begins."""

    def __init__(self, bounds, places, begin):
        self.bounds = bounds
        self.places = places
        self.begin = begin
        self.elements = dummy_elements(bounds, len(places))

    def whole_rows(self):
        """The bounds of its whole rows alone."""
        if self.bounds[-1][1] is not None:
            return self.bounds
        high = self.bounds[-1][0] - 1
        row = len(array(self.bounds[:-1]))
        left = len(self.places)
        while row > 0 and left >= row:
            high += 1
            left -= row
        return self.bounds[:-1] + ((self.bounds[-1][0], high),)

    def places_of(self, section):
        there = dict(zip(self.elements, self.places))
        return [there[element] for element in elements(section)]

    def part(self, part):
        """The places that a part hands on."""
        if part == "whole":
            return self.places
        if part[0] == "from":
            return self.places[self.elements.index(part[1]):]
        return self.places_of(part[1])

    def received(self, part, dummy):
        """The holder that a dummy is."""
        handed = self.part(part)
        begin = handed[0] if handed else self.begin
        if dummy[-1][1] is not None:
            handed = handed[:len(array(dummy))]
        return Holder(dummy, handed, begin)


def dummy_elements(bounds, many):
    """The elements of a dummy with so many places, in order."""
    if bounds[-1][1] is not None:
        return array(bounds)
    found = []
    number = bounds[-1][0]
    ahead = array(bounds[:-1])
    while ahead and len(found) < many:
        found += [element + (number,) for element in ahead]
        number += 1
    return found[:many]


def holder(bounds):
    """An array as a holder."""
    return Holder(bounds, list(range(len(array(bounds)))), 0)


def call_clash(rows):
    """The least clash of a call."""
    told = []
    for name, bounds, part, dummy, written, read in rows:
        its = holder(bounds).received(part, dummy)
        writes = [] if written is None else its.places_of(written)
        reads = [] if read is None else its.places_of(read)
        told.append((name, set(writes), set(writes) | set(reads)))
    clashes = []
    for at, (name, writes, _) in enumerate(told):
        for to, (other, _, reached) in enumerate(told):
            if at != to and name == other:
                clashes += [(name, place, at, to) for place in writes & reached]
    return min(clashes) if clashes else None


def normal(row):
    """The normal triplet of a list of numbers that are evenly apart, in any order."""
    row = sorted(row)
    if len(row) == 0:
        return (0, -1, 1)
    if len(row) == 1:
        return (row[0], row[0], 1)
    return (row[0], row[-1], row[1] - row[0])


def less(one, other):
    """The triplets of what one has and the other has not, in the order that promise 7 tells; None if too far apart."""
    row = sorted(numbers(one))
    shared = [number for number in row if number in numbers(other)]
    if not shared:
        return [normal(row)] if row else []
    pieces = [[number for number in row if number < shared[0]]]
    if len(shared) > 1:
        if row.index(shared[1]) - row.index(shared[0]) > 300:
            return None
        step = shared[1] - shared[0]
        for number in row:
            if shared[0] < number < shared[1]:
                pieces.append([more for more in row if number <= more < shared[-1] and (more - number) % step == 0])
    pieces.append([number for number in row if number > shared[-1]])
    return [normal(piece) for piece in pieces if piece]


def apart(triplets):
    """What each triplet has beyond those ahead of it; None if there are too many pieces."""
    told = []
    for at, triplet in enumerate(triplets):
        pieces = [normal(numbers(triplet))] if numbers(triplet) else []
        for other in triplets[:at]:
            left = []
            for piece in pieces:
                more = less(piece, other)
                if more is None:
                    return None
                left += more
            pieces = left
            if len(told) + len(pieces) > 300:
                return None
        told += pieces
    return told


def union(triplets):
    """All numbers of triplets, ascending."""
    return sorted({number for triplet in triplets for number in numbers(triplet)})


def in_rows(rows, n):
    """Whether a number is in the set of rows (first, step, last)."""
    return any(first <= n and (n - first) % step == 0 and (last is None or n <= last) for first, step, last in rows)


def loop_steps(one, other, order):
    """Each step of an assignment by loops, in their order: (write index, read element, written element)."""
    kept = [at for at, part in enumerate(one) if type(part) is not int]
    if any(numbers(part) == [] for part in one):
        return []
    told = []

    def go(left, index):
        if left:
            loop, way = left[0]
            for number in range(len(numbers(one[kept[loop]])))[::way]:
                go(left[1:], {**index, loop: number})
        else:
            told.append(tuple(index[loop] for loop in range(len(kept))))

    go(list(order), {})
    return [(index, at_index(other, index), at_index(one, index)) for index in told]


def at_index(section, index):
    """The element of a section at the indexes of its loops."""
    left = list(index)
    return tuple(part if type(part) is int else numbers(part)[left.pop(0)] for part in section)


def clash(one, other, order):
    """The first read of an element that was written ahead, None if there is none."""
    written = {}
    for index, read, write in loop_steps(one, other, order):
        if read in written:
            return (read, written[read], index)
        written[write] = index
    return None


def orders(many):
    """All orders of so many loops, ascending."""
    ways = itertools.product((-1, 1), repeat=many)
    return sorted(tuple(zip(loops, way)) for way in ways for loops in itertools.permutations(range(many)))


def signs(one, other):
    """The signs of the differences of numbers of shared subscripts, for each loop."""
    loops = [(numbers(part), numbers(its)) for part, its in zip(one, other) if type(part) is not int]
    if not set(elements(one)) & set(elements(other)):
        return [() for _ in loops]
    told = []
    for row, its in loops:
        lags = [row.index(number) - its.index(number) for number in row if number in its]
        told.append(tuple(sorted({(lag > 0) - (lag < 0) for lag in lags})))
    return told


def done(bounds, one, other, contents):
    """The contents behind an assignment, the right side read first."""
    told = list(contents)
    values = [contents[place] for place in places(bounds, other)]
    for place, value in zip(places(bounds, one), values):
        told[place] = value
    return told


def done_by(bounds, one, other, order, contents):
    """The contents behind an assignment by loops."""
    there = {element: place for place, element in enumerate(array(bounds))}
    told = list(contents)
    for _, read, write in loop_steps(one, other, order):
        told[there[write]] = told[there[read]]
    return told
