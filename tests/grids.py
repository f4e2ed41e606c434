"""What the tests of functions on arrays compare with: arrays as dicts from subscripts to elements, gone through."""

import itertools


def places(shape):
    """All subscripts of a shape, the first one running fastest."""
    return [tuple(reversed(row)) for row in itertools.product(*[range(1, extent + 1) for extent in reversed(shape)])]


def grid(array):
    """An array as a dict."""
    return dict(zip(places(array[0]), array[1]))


def array(shape, of):
    """The array of a shape with what is told of each of its subscripts."""
    return shape, [of(place) for place in places(shape)]


def without(row, dim):
    return row[:dim - 1] + row[dim:]


def within(row, dim, number):
    """Subscripts with one more, at a dimension."""
    return row[:dim - 1] + (number,) + row[dim - 1:]


def for_line(value, place, dim):
    """What is told for the line of a place: one thing for all, or an array of the shape without the dimension."""
    return value if type(value) is int else grid(value)[without(place, dim)]


def reshape(source, shape, pad=None, order=None):
    shape = tuple(shape)
    row = list(source[1])
    while pad is not None and len(row) < len(places(shape)):
        row += pad[1]
    order = order or range(1, len(shape) + 1)
    # The subscripts in the order in which they come: the dimension that is told first runs fastest.
    turned = [tuple(place[list(order).index(dim)] for dim in range(1, len(shape) + 1)) for place in places(tuple(shape[dim - 1] for dim in order))]
    told = dict(zip(turned, row))
    return array(shape, lambda place: told[place])


def transpose(one):
    (rows, columns), _ = one
    return array((columns, rows), lambda place: grid(one)[place[::-1]])


def spread(source, dim, copies):
    return array(within(source[0], dim, copies), lambda place: grid(source)[without(place, dim)])


def shifted(one, shift, dim, boundary=None):
    """Each line turned round, or shifted with a boundary."""
    told, extent = grid(one), one[0][dim - 1]

    def of(place):
        number = place[dim - 1] + for_line(shift, place, dim)
        if boundary is not None and not 1 <= number <= extent:
            return for_line(boundary, place, dim)
        return told[within(without(place, dim), dim, (number - 1) % extent + 1)]

    return array(one[0], of)


def folded(one, dim, mask, way):
    """What a way tells of the pairs (subscripts, element) where the mask is True: of all, or of each line."""
    picks = {place: mask for place in places(one[0])} if type(mask) is bool else grid(mask)
    rows = [(place, thing) for place, thing in grid(one).items() if picks[place]]
    if dim is None:
        return way(rows)
    return array(without(one[0], dim), lambda line: way([(place[dim - 1], thing) for place, thing in rows if without(place, dim) == line]))


def best(one, dim, mask, back, greatest):
    """Where the greatest or the least element is."""
    def way(rows):
        if not rows:
            return (0,) * len(one[0]) if dim is None else 0
        value = (max if greatest else min)(thing for _, thing in rows)
        found = [place for place, thing in rows if thing == value]
        return found[-1] if back else found[0]

    return folded(one, dim, mask, way)


def matmul(one, other):
    left, right = grid(one), grid(other)
    ahead, behind = len(one[0]) - 1, len(other[0]) - 1
    return array(one[0][:-1] + other[0][1:], lambda place: sum(
        left[place[:ahead] + (k,)] * right[(k,) + place[len(place) - behind:]] for k in range(1, one[0][-1] + 1)
    ))


def shape(rng, dims=None, most=60):
    """A shape of few elements, perhaps of none."""
    told = []
    for _ in range(rng.randint(0, 7) if dims is None else dims):
        extent = rng.choice([1, 1, 2, 2, 3, 4, 5]) if rng.random() < 0.97 else 0
        made = 1
        for one in told:
            made *= max(1, one)
        told.append(extent if made * extent <= most else 1)
    return tuple(told)


def numbers(rng, its, high=5):
    """An array of a shape."""
    return its, [rng.randint(-high, high) for _ in places(its)]


def bools(rng, its):
    """A mask of a shape."""
    likely = rng.choice([0.1, 0.5, 0.9])
    return its, [rng.random() < likely for _ in places(its)]


def mask(rng, its):
    """A mask of a shape, or a bool."""
    return rng.choice([True, True, False, bools(rng, its), bools(rng, its), bools(rng, its)])
