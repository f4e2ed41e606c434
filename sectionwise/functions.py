"""Functions on arrays of integers and on masks, tuples (shape, row) of extents and of elements in order."""

from sectionwise.parts import is_number
from sectionwise.sections import DIMENSIONS, multiplied
from sectionwise.shapes import (
    are_extents, check, check_dim, check_size, is_bool, is_bools, is_dim, is_mask_for, is_vector, is_whole, is_whole_of,
    lines_of, picks_of, place_in_shape, row_of_lines, subscripts_at, without,
)


def is_array(value):
    """Whether any value is an array."""
    return is_whole(value)


def is_mask(value):
    """Whether any value is a mask."""
    return is_bools(value)


def is_place(shape, value):
    """Whether any value is a list or tuple of subscripts of an element."""
    if not isinstance(value, (list, tuple)) or len(value) != len(shape):
        return False
    return all([is_number(number) and 1 <= number <= extent for number, extent in zip(value, shape)])


def element(array, subscripts):
    """The element of an array or a mask with these subscripts."""
    check(is_whole(array) or is_bools(array), "array")
    shape, row = array
    check(is_place(shape, subscripts), "subscripts")
    return row[place_in_shape(shape, subscripts)]


def is_order(value, many):
    """Whether any value is a list or tuple of the numbers from 1 to so many, once each."""
    if not isinstance(value, (list, tuple)) or not all([is_number(number) for number in value]):
        return False
    return sorted(value) == list(range(1, many + 1))


def numbers_by_order(shape, order):
    """For each element of a shape, in order, how many elements are put in ahead of it."""
    weights = {}
    ahead = 1
    for dim in order:
        weights[dim] = ahead
        ahead = ahead * shape[dim - 1]
    told = [0]
    for dim, extent in enumerate(shape, start=1):
        told = [number + weights[dim] * more for more in range(extent) for number in told]
    return told


def reshape(source, shape, *, pad=None, order=None):
    """The array of a shape of the elements of source, and those of pad behind, put in by an order of subscripts."""
    check(is_whole(source), "source")
    check(are_extents(shape), "shape")
    check(pad is None or is_whole(pad), "pad")
    check(order is None or is_order(order, len(shape)), "order")
    check_size(shape)
    many = multiplied(shape)
    row, more = list(source[1]), [] if pad is None else list(pad[1])
    check(len(row) >= many or len(more) > 0, "source")
    if many == 0:
        return tuple(shape), []
    if len(row) < many:
        row = row + more * (many // len(more) + 1)
    dims = list(range(1, len(shape) + 1)) if order is None else list(order)
    return tuple(shape), [row[number] for number in numbers_by_order(shape, dims)]


def transpose(array):
    """The matrix with the dimensions exchanged."""
    check(is_whole(array) and len(array[0]) == 2, "array")
    (rows, columns), row = array
    return (columns, rows), transposed(rows, columns, row)


def transposed(rows, columns, row):
    """The elements of a matrix with so many rows and columns, row by row."""
    if rows == 0 or columns == 0:
        return []
    return [thing for line in lines_of((rows, columns), row, 2) for thing in line]


def spread(source, dim, copies):
    """The array in which each element of source stands so many times along a new dimension."""
    check(is_whole(source) and len(source[0]) < DIMENSIONS, "source")
    shape, row = source
    check(is_number(dim) and 1 <= dim <= len(shape) + 1, "dim")
    check(is_number(copies) and copies >= 0, "copies")
    made = shape[:dim - 1] + (copies,) + shape[dim - 1:]
    check_size(made)
    if multiplied(made) == 0:
        return made, []
    return made, row_of_lines(made, [[thing] * copies for thing in row], dim)


def merge(one, other, mask):
    """The elements of one where the mask is True, of the other elsewhere."""
    check(is_whole(one), "one")
    shape = one[0]
    check(is_whole_of(other, shape), "other")
    check(is_bools(mask) and mask[0] == shape, "mask")
    return shape, [thing if is_taken else its for thing, its, is_taken in zip(one[1], other[1], mask[1])]


def pack(array, mask, *, vector=None):
    """The array of one dimension of the elements where the mask is True, with those of a vector behind."""
    check(is_whole(array), "array")
    shape, row = array
    check(is_mask_for(mask, shape), "mask")
    taken = [thing for thing, is_taken in zip(row, picks_of(mask, len(row))) if is_taken]
    check(vector is None or (is_vector(vector) and len(vector[1]) >= len(taken)), "vector")
    if vector is not None:
        taken.extend(vector[1][len(taken):])
    return (len(taken),), taken


def unpack(vector, mask, field):
    """The array of the elements of a vector where the mask is True, of those of the field elsewhere."""
    check(is_vector(vector), "vector")
    check(is_bools(mask), "mask")
    shape, picks = mask
    check(is_number(field) or is_whole_of(field, shape), "field")
    check(len(vector[1]) >= list(picks).count(True), "vector")
    told = [field] * len(picks) if is_number(field) else list(field[1])
    taken = [at for at, is_taken in enumerate(picks) if is_taken]
    for at, thing in zip(taken, vector[1]):
        told[at] = thing
    return shape, told


def is_for_lines(shape, dim, value):
    """Whether any value is an integer, for all lines along a dimension, or an array with one for each."""
    return is_number(value) or is_whole_of(value, without(shape, dim))


def of_lines(value, many):
    """The list of what is told for each of so many lines."""
    return [value] * many if is_number(value) else list(value[1])


def turned_line(line, shift):
    """A line with elements, turned round."""
    by = shift % len(line)
    return line[by:] + line[:by]


def shifted_line(line, shift, beyond):
    """A line shifted, with what stands beyond it."""
    gap = [beyond] * min(abs(shift), len(line))
    if shift < 0:
        return gap + line[:len(line) - len(gap)]
    return line[len(gap):] + gap


def check_shift(array, dim, shift):
    """Refuse what is no array, or no dimension of it, or no shift for the lines along this dimension."""
    check(is_whole(array), "array")
    check(is_dim(array[0], dim), "dim")
    check(is_for_lines(array[0], dim, shift), "shift")


def cshift(array, shift, *, dim=1):
    """The array with each line along a dimension turned round."""
    check_shift(array, dim, shift)
    shape, row = array
    if len(row) == 0:
        return shape, []
    lines = lines_of(shape, row, dim)
    made = [turned_line(line, by) for line, by in zip(lines, of_lines(shift, len(lines)))]
    return shape, row_of_lines(shape, made, dim)


def eoshift(array, shift, *, boundary=0, dim=1):
    """The array with each line along a dimension shifted, the boundary standing where there is no element."""
    check_shift(array, dim, shift)
    shape, row = array
    check(is_for_lines(shape, dim, boundary), "boundary")
    if len(row) == 0:
        return shape, []
    lines = lines_of(shape, row, dim)
    many = len(lines)
    made = [
        shifted_line(line, by, beyond)
        for line, by, beyond in zip(lines, of_lines(shift, many), of_lines(boundary, many))
    ]
    return shape, row_of_lines(shape, made, dim)


def picked(row, picks):
    """The list of the elements that are picked."""
    return [thing for thing, is_taken in zip(row, picks) if is_taken]


def folded(shape, row, dim, picks, way):
    """What a way tells of the elements and their picks: of all, or of each line along a dimension as an array."""
    if dim is None:
        return way(row, picks)
    left = without(shape, dim)
    check_size(left)
    return left, [
        way(line, its)
        for line, its in zip(lines_of(shape, row, dim), lines_of(shape, picks, dim))
    ]


def check_picked(array, dim, mask):
    """Refuse what is no array, no dimension of it, or no mask for it."""
    check(is_whole(array), "array")
    check_dim(array[0], dim)
    check(is_mask_for(mask, array[0]), "mask")


def folded_array(array, dim, mask, way):
    """What a way tells of the elements of what may be an array, and of the picks of what may be a mask."""
    check_picked(array, dim, mask)
    shape, row = array
    return folded(shape, row, dim, picks_of(mask, len(row)), way)


def folded_mask(mask, dim, way):
    """What a way tells of the bools of what may be a mask."""
    check(is_bools(mask), "mask")
    shape, row = mask
    check_dim(shape, dim)
    return folded(shape, row, dim, row, way)


def total(array, *, dim=None, mask=True):
    """The sum of the elements where the mask is True, or of those of each line along a dimension."""
    return folded_array(array, dim, mask, lambda row, picks: sum(picked(row, picks)))


def product(array, *, dim=None, mask=True):
    """The product of the elements where the mask is True, or of those of each line along a dimension."""
    return folded_array(array, dim, mask, lambda row, picks: multiplied(picked(row, picks)))


def how_many(mask, *, dim=None):
    """How many elements of a mask are True, or of each line along a dimension."""
    return folded_mask(mask, dim, lambda row, picks: len(picked(row, picks)))


def any_of(mask, *, dim=None):
    """Whether some elements of a mask are True, or some of each line along a dimension."""
    return folded_mask(mask, dim, lambda row, picks: True in row)


def all_of(mask, *, dim=None):
    """Whether all elements of a mask are True, or all of each line along a dimension."""
    return folded_mask(mask, dim, lambda row, picks: False not in row)


def best_in(row, picks, sign, back):
    """The number, from 1 on, of the first or the last picked element that is greatest, times a sign; 0 without any."""
    best = max([sign * thing for thing in picked(row, picks)], default=None)
    found = [at for at, thing in enumerate(row, start=1) if picks[at - 1] and sign * thing == best]
    if len(found) == 0:
        return 0
    return found[-1] if back else found[0]


def best_of(array, dim, mask, back, sign):
    """The subscripts of the greatest element, times a sign, of what may be an array, or of that of each line."""
    check_picked(array, dim, mask)
    check(is_bool(back), "back")
    shape, row = array
    told = folded(shape, row, dim, picks_of(mask, len(row)), lambda line, its: best_in(line, its, sign, back))
    if dim is not None:
        return told
    return subscripts_at(shape, told - 1) if told > 0 else tuple([0 for _ in shape])


def maxloc(array, *, dim=None, mask=True, back=False):
    """The subscripts of the greatest element where the mask is True, or that along a dimension for each line."""
    return best_of(array, dim, mask, back, 1)


def minloc(array, *, dim=None, mask=True, back=False):
    """The subscripts of the least element where the mask is True, or that along a dimension for each line."""
    return best_of(array, dim, mask, back, -1)


def is_factor(value):
    """Whether any value is an array of one dimension or two."""
    return is_whole(value) and len(value[0]) in (1, 2)


def matmul(one, other):
    """The product of two matrices, or of a vector and a matrix."""
    check(is_factor(one), "one")
    check(is_factor(other) and len(one[0]) + len(other[0]) > 2 and one[0][-1] == other[0][0], "other")
    shape = one[0][:-1] + other[0][1:]
    check_size(shape)
    if multiplied(shape) == 0:
        return shape, []
    rows = lines_of(one[0], one[1], len(one[0]))
    columns = lines_of(other[0], other[1], 1)
    return shape, [sum([thing * its for thing, its in zip(row, column)]) for column in columns for row in rows]
