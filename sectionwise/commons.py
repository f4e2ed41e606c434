"""Common blocks of program units: variables that lie one behind the other, and what rows link with them."""

from sectionwise.errors import InvalidArgument, InvalidLayout
from sectionwise.parts import is_name
from sectionwise.rings import seats_by, shortest_ring
from sectionwise.sections import size_of
from sectionwise.sharing import (
    LETTERS, VARIABLES, check_number, check_rows, check_variables, end_of, lines_of, names_of, shared_units,
    stretches_of, touched_by,
)

BLOCKS = 10
UNITS = 20
BLANK = ""


def is_block(names, value):
    """Whether any value is a tuple of a block's name and some of the names of variables."""
    if not isinstance(value, tuple) or len(value) != 2:
        return False
    block, told = value
    if block != BLANK and not is_name(block, LETTERS):
        return False
    if not isinstance(told, tuple) or not 1 <= len(told) <= VARIABLES:
        return False
    return all([isinstance(name, str) and name in names for name in told])


def are_blocks(names, value):
    """Whether any value is a list or tuple of so few blocks, with unlike names and unlike variables."""
    if not isinstance(value, (list, tuple)) or len(value) > BLOCKS:
        return False
    if not all([is_block(names, block) for block in value]):
        return False
    blocks = [block for block, _ in value]
    placed = [name for _, told in value for name in told]
    return len(set(blocks)) == len(blocks) and len(set(placed)) == len(placed)


def check_unit(unit):
    """Refuse what is no program unit."""
    if not isinstance(unit, tuple) or len(unit) != 3:
        raise InvalidLayout("unit")
    variables, blocks, rows = unit
    check_variables(variables)
    if not are_blocks(names_of(variables), blocks):
        raise InvalidLayout("blocks")
    check_rows(variables, rows)


def block_line(variables, block, names):
    """The line of a block: its begin is the base of each variable, less the units of those ahead."""
    units = {name: size * size_of(bounds) for name, size, bounds in variables}
    members = []
    ahead = 0
    for name in names:
        members.append((name, -ahead))
        ahead = ahead + units[name]
    return block, members


def lines_in(unit):
    """The list of the lines of the blocks and the rows of a unit."""
    variables, blocks, rows = unit
    return [block_line(variables, block, names) for block, names in blocks] + lines_of(variables, rows)


def seats_in(unit):
    """The seats of the variables of a unit, None if its lines cannot all hold."""
    return seats_by(names_of(unit[0]), lines_in(unit))


def joined_blocks(blocks, seats):
    """The names of the first two blocks that are of one group, None if there are none."""
    for at, (block, names) in enumerate(blocks):
        for other, others in blocks[at + 1:]:
            if seats[names[0]][0] == seats[others[0]][0]:
                return block, other
    return None


def name_ahead(unit, seats):
    """The first block of whose group a variable begins ahead of its begin, and the first such variable, or None."""
    variables, blocks, _ = unit
    for block, names in blocks:
        group, begin = seats[names[0]]
        for name in names_of(variables):
            if seats[name][0] == group and seats[name][1] < begin:
                return block, name
    return None


def refused_by(unit, seats):
    """What refusal tells of a unit that has these seats."""
    if seats is None:
        return "ring", shortest_ring(names_of(unit[0]), lines_in(unit))
    told = joined_blocks(unit[1], seats)
    if told is not None:
        return "joined", told[0], told[1]
    told = name_ahead(unit, seats)
    if told is not None:
        return "ahead", told[0], told[1]
    return None


def has_layout(unit, seats):
    """Whether a unit that has these seats is not refused."""
    return seats is not None and joined_blocks(unit[1], seats) is None and name_ahead(unit, seats) is None


def check_layout(unit):
    """Refuse what is no program unit, or is refused; tells the seats of its variables."""
    check_unit(unit)
    seats = seats_in(unit)
    if not has_layout(unit, seats):
        raise InvalidLayout("refused")
    return seats


def block_stretches(unit, seats, names):
    """For each variable of the layout of a block that has these names its stretch, told from the block's begin."""
    group, begin = seats[names[0]]
    stretches = stretches_of(unit[0], {name: (0, base - begin) for name, (_, base) in seats.items()})
    return {name: stretch for name, stretch in stretches.items() if seats[name][0] == group}


def block_length(stretches):
    """How many units a block has from its begin to the last one of its stretches."""
    return max([end_of(stretch) for stretch in stretches.values()])


def lengths_in(unit, seats):
    """For each block of a unit its length."""
    return {block: block_length(block_stretches(unit, seats, names)) for block, names in unit[1]}


def check_block(one, other, block):
    """Refuse what is no name of a block of both units."""
    if not isinstance(block, str) or not all([block in dict(unit[1]) for unit in (one, other)]):
        raise InvalidArgument("block")


def both_stretches(one, other, block):
    """For each of two units the stretches of the layout of what may be a block of both."""
    seats = check_layout(one)
    other_seats = check_layout(other)
    check_block(one, other, block)
    return (
        block_stretches(one, seats, dict(one[1])[block]),
        block_stretches(other, other_seats, dict(other[1])[block]),
    )


def refusal(unit):
    """Why a program unit is refused, None if it is not."""
    check_unit(unit)
    return refused_by(unit, seats_in(unit))


def layout(unit):
    """For each block a tuple (block, length, places), None if the unit is refused."""
    check_unit(unit)
    seats = seats_in(unit)
    if not has_layout(unit, seats):
        return None
    told = []
    for block, names in unit[1]:
        stretches = block_stretches(unit, seats, names)
        places = tuple([(name, base) for name, (_, base, _, _) in stretches.items()])
        told.append((block, block_length(stretches), places))
    return told


def across(one, other, block):
    """The list of tuples (name, other name, start, many) of what shares units of a block of two units."""
    stretches, others = both_stretches(one, other, block)
    told = []
    for name, stretch in stretches.items():
        for other_name, its in others.items():
            both = shared_units(stretch, its)
            if both is not None:
                told.append((name, other_name, both[0], both[1] - both[0]))
    return told


def elements_across(one, name, number, other, block):
    """The list of tuples (other name, first, last) of what shares units with an element of a block of two units."""
    stretches, others = both_stretches(one, other, block)
    if not isinstance(name, str) or name not in stretches:
        raise InvalidArgument("name")
    check_number(stretches[name], number)
    told = []
    for other_name, its in others.items():
        both = touched_by(stretches[name], number, its)
        if both is not None:
            told.append((other_name, both[0], both[1]))
    return told


def all_lengths(units):
    """The list of tuples (block, lengths) of what may be units, in the order in which the blocks first appear."""
    if not isinstance(units, (list, tuple)) or not 1 <= len(units) <= UNITS:
        raise InvalidLayout("units")
    found = [lengths_in(unit, check_layout(unit)) for unit in units]
    blocks = {block: True for told in found for block in told}
    return [(block, tuple([told.get(block) for told in found])) for block in blocks]


def lengths(units):
    """For each block, in the order of its first unit, the tuple of its lengths, None where it is not."""
    return all_lengths(units)


def unlike(units):
    """The first block, but for the blank one, with unlike lengths, and its first two units with such; or None."""
    for block, told in all_lengths(units):
        first = [at for at, length in enumerate(told) if length is not None][0]
        others = [at for at, length in enumerate(told) if length is not None and length != told[first]]
        if block != BLANK and len(others) > 0:
            return block, first, others[0]
    return None


def storage(units):
    """For each block, by name, the greatest of its lengths."""
    return sorted([
        (block, max([length for length in told if length is not None]))
        for block, told in all_lengths(units)
    ])
