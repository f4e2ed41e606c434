"""Arrays as tuples (shape, row): what is one, and their lines along a dimension.

The row has the elements, the first subscript running fastest. An array without elements may have far extents; so
lines are told only where there are few of them.
"""

from sectionwise.errors import InvalidArgument, LimitExceeded
from sectionwise.parts import is_number
from sectionwise.sections import DIMENSIONS, multiplied

MOST = 5000


def is_bool(value):
    """Whether any value is True or False."""
    return isinstance(value, bool)


def are_extents(value):
    """Whether any value is a list or tuple of so few extents."""
    if not isinstance(value, (list, tuple)) or len(value) > DIMENSIONS:
        return False
    return all([is_number(extent) and extent >= 0 for extent in value])


def is_array_of(value, is_kind):
    """Whether any value is a tuple of a shape and as many elements of a kind as it asks for."""
    if not isinstance(value, tuple) or len(value) != 2:
        return False
    shape, row = value
    if not isinstance(shape, tuple) or not are_extents(shape) or not isinstance(row, (list, tuple)):
        return False
    if len(row) > MOST or len(row) != multiplied(shape):
        return False
    return all([is_kind(thing) for thing in row])


def is_whole(value):
    """Whether any value is an array of integers."""
    return is_array_of(value, is_number)


def is_bools(value):
    """Whether any value is an array of bools: a mask."""
    return is_array_of(value, is_bool)


def is_whole_of(value, shape):
    """Whether any value is an array of integers of a shape."""
    return is_whole(value) and value[0] == shape


def is_vector(value):
    """Whether any value is an array of integers of one dimension."""
    return is_whole(value) and len(value[0]) == 1


def is_mask_for(value, shape):
    """Whether any value is a bool, for all elements, or a mask of a shape."""
    return is_bool(value) or (is_bools(value) and value[0] == shape)


def picks_of(mask, many):
    """The list of bools of a mask for so many elements."""
    return [mask] * many if is_bool(mask) else list(mask[1])


def is_dim(shape, value):
    """Whether any value is the number, from 1 on, of a dimension."""
    return is_number(value) and 1 <= value <= len(shape)


def check(is_right, part):
    """Refuse the argument of this name if it is not right."""
    if not is_right:
        raise InvalidArgument(part)


def check_dim(shape, dim):
    """Refuse what is neither None nor the number of a dimension."""
    check(dim is None or is_dim(shape, dim), "dim")


def check_size(shape):
    """Refuse a shape of too many elements."""
    if multiplied(shape) > MOST:
        raise LimitExceeded(MOST)


def without(shape, dim):
    """A shape without a dimension."""
    return shape[:dim - 1] + shape[dim:]


def line_slices(shape, dim):
    """The list of the slices (start, end, step) of a row that are the lines along a dimension, in their order."""
    step, extent, many = multiplied(shape[:dim - 1]), shape[dim - 1], multiplied(shape[dim:])
    if step == 0 or many == 0:
        # The other one may be far.
        return []
    length = step * extent
    return [(start + turn * length, (turn + 1) * length, step) for turn in range(many) for start in range(step)]


def lines_of(shape, row, dim):
    """The list of the lists of the elements of each line along a dimension."""
    return [list(row[start:end:step]) for start, end, step in line_slices(shape, dim)]


def row_of_lines(shape, lines, dim):
    """The row of an array of which the lines along a dimension are told."""
    row = [0] * multiplied(shape)
    for (start, end, step), line in zip(line_slices(shape, dim), lines):
        row[start:end:step] = line
    return row


def place_in_shape(shape, subscripts):
    """The place in the row of the element with these subscripts, from 1 on."""
    place = 0
    for extent, subscript in zip(shape[::-1], subscripts[::-1]):
        place = place * extent + subscript - 1
    return place


def subscripts_at(shape, place):
    """The tuple of the subscripts, from 1 on, of the element at a place in the row."""
    told = []
    for extent in shape:
        told.append(place % extent + 1)
        place = place // extent
    return tuple(told)
