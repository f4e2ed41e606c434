"""What the tests of storage at work compare with: a log of all writes, and programs done in all ways."""

WIDTHS = {"integer": 1, "real": 1, "double": 2, "long": 2}


def units(variable, k):
    """The units of an element."""
    _, kind, first, _ = variable
    begin = first + WIDTHS[kind] * (k - 1)
    return list(range(begin, begin + WIDTHS[kind]))


class Log:
    """Storage as the list of all writes: (kind, units, value)."""

    def __init__(self, variables, writes=()):
        self.variables = {variable[0]: variable for variable in variables}
        self.writes = list(writes)

    def write(self, name, k, value):
        variable = self.variables[name]
        self.writes.append((variable[1], units(variable, k), value))

    def read(self, name, k):
        """The value, if the last write that touched a unit of the element was one of its kind on just its units."""
        variable = self.variables[name]
        here = units(variable, k)
        for kind, there, value in reversed(self.writes):
            if set(here) & set(there):
                return value if (kind, there) == (variable[1], here) else None
        return None

    def defined(self):
        return {name: [self.read(name, k) is not None for k in range(1, many + 1)] for name, _, _, many in self.variables.values()}


def run(log, rows, choices, path=()):
    """Do rows; the path at which the run stops."""
    for number, row in enumerate(rows):
        here = path + (number,)
        if row[0] == "write":
            log.write(*row[1:])
        elif row[0] == "copy":
            value = log.read(*row[3:])
            if value is None:
                return here
            log.write(row[1], row[2], value)
        else:
            chosen = 2 if choices and choices.pop(0) else 1
            stop = run(log, row[chosen], choices, here + (chosen,))
            if stop is not None:
                return stop
    return None


def all_ways(variables, rows):
    """All runs, each as (path, log)."""
    def go(writes, left):
        if not left:
            return [(None, Log(variables, writes))]
        (row, path), *behind = left
        log = Log(variables, writes)
        if row[0] == "either":
            found = []
            for chosen in (1, 2):
                inner = [(one, path + (chosen, number)) for number, one in enumerate(row[chosen])]
                found += go(writes, inner + behind)
            return found
        stop = run(log, [row], [])
        if stop is not None:
            return [(path, log)]
        return go(log.writes, behind)

    return go([], [(row, (number,)) for number, row in enumerate(rows)])


def variables(rng, most=5, size=12):
    """How many units there are, and some variables on them."""
    many = rng.randint(1, size)
    told = []
    for name in rng.sample(["a", "b", "c", "d", "abcdefghij", "z"], rng.randint(0, most)):
        kind = rng.choice(list(WIDTHS) if many > 1 else ["integer", "real"])
        elements = rng.randint(1, many // WIDTHS[kind])
        told.append((name, kind, rng.randint(0, many - WIDTHS[kind] * elements), elements))
    return many, told


def element(rng, variables):
    name, _, _, many = rng.choice(variables)
    return name, rng.randint(1, many)


def program(rng, variables, most=6, deep=3):
    """A program of few rows."""
    told = []
    for _ in range(rng.randint(0, most) if variables else 0):
        kind = rng.random()
        name, k = element(rng, variables)
        others = [other for other in variables if other[1] == dict((one[0], one) for one in variables)[name][1]]
        if kind < 0.45:
            told.append(("write", name, k, rng.randint(-9, 9)))
        elif kind < 0.75:
            told.append(("copy", name, k) + element(rng, others))
        elif deep:
            told.append(("either", program(rng, variables, most // 2, deep - 1), tuple(program(rng, variables, most // 2, deep - 1))))
    return told
