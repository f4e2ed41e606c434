"""What the tests of common blocks compare with: program units put down unit of storage by unit of storage."""

import laid

BLOCKS = ["", "c", "b", "blk", "zz"]


def lines(unit):
    """The lines (label, members) of the blocks and the rows."""
    variables, blocks, rows = unit
    table = {variable[0]: variable for variable in variables}
    told = []
    for block, names in blocks:
        members, ahead = [], 0
        for name in names:
            members.append((name, -ahead))
            ahead += table[name][1] * laid.many(table[name])
        told.append((block, members))
    return told + list(enumerate(laid.lines(variables, rows)))


def bases(unit):
    """Where each variable lies, in its group; None if it lies at two places."""
    return laid.bases([variable[0] for variable in unit[0]], [members for _, members in lines(unit)])


def refusal(unit):
    """What refusal tells, a ring by how many steps it has."""
    found = bases(unit)
    if found is None:
        return ("ring", laid.fewest_steps(lines(unit), 9))
    variables, blocks, _ = unit
    for at in range(len(blocks)):
        for to in range(at + 1, len(blocks)):
            if found[blocks[at][1][0]][0] == found[blocks[to][1][0]][0]:
                return ("joined", blocks[at][0], blocks[to][0])
    for block, names in blocks:
        group, begin = found[names[0]]
        for variable in variables:
            if found[variable[0]][0] == group and found[variable[0]][1] < begin:
                return ("ahead", block, variable[0])
    return None


def put_down(unit, block):
    """For each variable of the layout of a block the list of the units of each element, counted from its begin."""
    found = bases(unit)
    group, begin = found[dict(unit[1])[block][0]]
    return {
        variable[0]: laid.units(variable, found[variable[0]][1] - begin)
        for variable in unit[0] if found[variable[0]][0] == group
    }


def layout(unit):
    if refusal(unit) is not None:
        return None
    told = []
    for block, _ in unit[1]:
        down = put_down(unit, block)
        length = 1 + max(number for row in down.values() for part in row for number in part)
        told.append((block, length, tuple((name, row[0][0]) for name, row in down.items())))
    return told


def across(one, other, block):
    told = []
    for name, row in put_down(one, block).items():
        for other_name, its in put_down(other, block).items():
            both = sorted({number for part in row for number in part} & {number for part in its for number in part})
            if both:
                told.append((name, other_name, both[0], len(both)))
    return told


def elements_across(one, name, number, other, block):
    told = []
    touched = set(put_down(one, block)[name][number])
    for other_name, its in put_down(other, block).items():
        found = [at for at, part in enumerate(its) if touched & set(part)]
        if found:
            told.append((other_name, found[0], found[-1]))
    return told


def unit(rng, rows=2, blocks=3, wrong=0.3):
    """A program unit, whose rows often can hold."""
    variables = laid.variables(rng, 6)
    names = [variable[0] for variable in variables]
    rng.shuffle(names)
    told = []
    for block in rng.sample(BLOCKS, rng.randint(0, blocks)):
        many = rng.randint(1, 3)
        if names:
            told.append((block, tuple(names[:many])))
            names = names[many:]
    if rng.random() < wrong:
        return variables, told, laid.any_rows(rng, variables, rows)
    # Rows that hold: variables of no block lie on those of one.
    chosen = []
    table = {variable[0]: variable for variable in variables}
    for name in names:
        if told and rng.random() < 0.7:
            other = table[rng.choice(rng.choice(told)[1])]
            chosen.append((laid.member(rng, other), laid.member(rng, table[name])))
    return variables, told, chosen


def right_unit(rng, block):
    """A program unit that is not refused and has a block."""
    while True:
        made = unit(rng, wrong=0.1)
        if block in dict(made[1]) and refusal(made) is None:
            return made
