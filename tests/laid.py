"""What the tests of shared storage compare with: variables put down unit by unit, and rings by all walks."""

import plain

NAMES = ["a", "b", "c", "d", "e", "f", "g", "h"]


def many(variable):
    """How many elements a variable has."""
    found = 1
    for low, high in variable[2]:
        found *= high - low + 1
    return found


def ahead(variable, subscripts):
    """How many units lie ahead of an element."""
    if subscripts == () or variable[2] == ():
        return 0
    return variable[1] * plain.array(variable[2]).index(subscripts)


def lines(variables, rows):
    """The rows with the units ahead of each member."""
    table = {variable[0]: variable for variable in variables}
    return [[(name, ahead(table[name], subscripts)) for name, subscripts in row] for row in rows]


def bases(names, told):
    """Where each variable lies, in the group of the first one that is linked with it; None if it lies at two places."""
    found = {}
    for name in names:
        if name in found:
            continue
        found[name] = (name, 0)
        queue = [name]
        while queue:
            here = queue.pop()
            for row in told:
                for one, units in row:
                    if one != here:
                        continue
                    for other, its in row:
                        base = (name, found[here][1] + units - its)
                        if other not in found:
                            found[other] = base
                            queue.append(other)
                        elif found[other] != base:
                            return None
    return found


def offsets(variables, rows):
    found = bases([variable[0] for variable in variables], lines(variables, rows))
    if found is None:
        return None
    lowest = {group: min(base for its, base in found.values() if its == group) for group, _ in found.values()}
    return [(variable[0], found[variable[0]][0], found[variable[0]][1] - lowest[found[variable[0]][0]]) for variable in variables]


def units(variable, base):
    """For each element the list of its units, from a base on."""
    _, size, _ = variable
    return [list(range(base + size * at, base + size * (at + 1))) for at in range(many(variable))]


def placed(variables, rows, name):
    """The group of a variable, and the units of its elements."""
    for variable, (_, group, offset) in zip(variables, offsets(variables, rows)):
        if variable[0] == name:
            return group, units(variable, offset)


def pairs(variables, rows, one, other):
    """All pairs of elements that have a unit in common, and all that lie on just the same units."""
    group, row = placed(variables, rows, one)
    its_group, its = placed(variables, rows, other)
    if group != its_group:
        return [], []
    both = [(at, to) for at in range(len(row)) for to in range(len(its)) if set(row[at]) & set(its[to])]
    return both, [(at, to) for at, to in both if row[at] == its[to]]


def shared(variables, rows, one, other):
    group, row = placed(variables, rows, one)
    its_group, its = placed(variables, rows, other)
    both = sorted({unit for part in row for unit in part} & {unit for part in its for unit in part})
    if group != its_group or not both:
        return None
    return both[0] - row[0][0], len(both)


def idle(variables, rows):
    """The rows that hold with all bases with which those ahead do: that link nothing new, and can hold."""
    names = [variable[0] for variable in variables]
    told = lines(variables, rows)
    if bases(names, told) is None:
        return None
    return [at for at in range(len(rows)) if bases(names, told[:at]) == bases(names, told[:at + 1])]


def steps(told):
    """All steps (step, from, to, units)."""
    found = []
    for label, row in told:
        for at, (one, its_units) in enumerate(row):
            for to, (other, others) in enumerate(row):
                if at != to:
                    found.append(((label, at, to), one, other, its_units - others))
    return found


def is_ring(told, thing):
    """Whether any object is a ring of lines (label, members)."""
    if type(thing) not in (list, tuple) or len(thing) == 0:
        return False
    table = {step: rest for step, *rest in steps(told)}
    for step in thing:
        if type(step) is not tuple or len(step) != 3 or any(type(part) not in (int, str) for part in step) or step not in table:
            return False
    walk = [table[step] for step in thing]
    if any(walk[at - 1][1] != walk[at][0] for at in range(len(walk))):
        return False
    return sum(units for _, _, units in walk) != 0


def fewest_steps(told, most=12):
    """How many steps a shortest ring has, going all ways; None if there is none of so few steps."""
    found = steps(told)
    walks = {(one, one, 0) for _, one, _, _ in found}
    for number in range(1, most + 1):
        walks = {
            (begin, to, units + more) for begin, here, units in walks for _, one, to, more in found if one == here
        }
        if any(begin == here and units != 0 for begin, here, units in walks):
            return number
    return None


def variables(rng, most=5, sizes=(1, 1, 1, 2, 2, 3, 4), elements=12):
    """Some variables with small bounds."""
    told = []
    for name in rng.sample(NAMES, rng.randint(1, most)):
        bounds = []
        made = 1
        for _ in range(rng.choice([0, 1, 1, 1, 2, 3])):
            extent = rng.choice([1, 2, 3, 4, 6])
            if made * extent <= elements:
                made *= extent
                low = rng.randint(-3, 3)
                bounds.append((low, low + extent - 1))
        told.append((name, rng.choice(sizes), tuple(bounds)))
    return told


def member(rng, variable):
    """A member of a variable."""
    if variable[2] == () or rng.random() < 0.2:
        return variable[0], ()
    return variable[0], tuple(rng.randint(low, high) for low, high in variable[2])


def any_rows(rng, some, most=4, members=3):
    """Rows that often cannot hold."""
    return [
        tuple(member(rng, rng.choice(some)) for _ in range(rng.randint(2, members)))
        for _ in range(rng.randint(0, most))
    ]


def rows_that_hold(rng, some, most=4):
    """Rows that hold for variables that lie at chosen bases."""
    begins = {variable[0]: rng.randint(0, 6) for variable in some}
    told = []
    for _ in range(rng.randint(0, most)):
        unit = rng.randint(0, 12)
        row = []
        for variable in some:
            at, rest = divmod(unit - begins[variable[0]], variable[1])
            if rest == 0 and 0 <= at < many(variable) and rng.random() < 0.8:
                row.append((variable[0], plain.array(variable[2])[at] if variable[2] else ()))
        rng.shuffle(row)
        if len(row) > 1:
            told.append(tuple(row))
    return told
