"""What the tests of programs of assignments compare with: a plain machine that does one statement after the other."""

import chosen
import plain


def size(bounds):
    return len(plain.array(bounds))


def run(arrays, statements, contents):
    """The contents behind statements."""
    told = {name: list(contents[name]) for name in arrays}
    for word, name, section, *rest in statements:
        places = plain.places(arrays[name], section)
        mask = rest[-1] or [True] * len(places)
        if word in ("times", "fill"):
            for place, is_done in zip(places, mask):
                if is_done:
                    told[name][place] = rest[0] if word == "fill" else told[name][place] * rest[0]
            continue
        source, other = rest[0], plain.places(arrays[rest[0]], rest[1])
        read = [told[source][place] for place in other]
        written = [told[name][place] for place in places]
        for at, is_done in enumerate(mask):
            if not is_done:
                continue
            if word == "copy":
                told[name][places[at]] = read[at]
            elif word == "add":
                told[name][places[at]] = written[at] + rest[2] * read[at]
            else:
                told[name][places[at]] = read[at]
                told[source][other[at]] = written[at]
    return told


def zeros(arrays):
    return {name: [0] * size(arrays[name]) for name in arrays}


def with_one(arrays, name, place):
    told = zeros(arrays)
    told[name][place] = 1
    return told


def everything(arrays):
    """All elements (name, place), ascending."""
    return [(name, place) for name in sorted(arrays) for place in range(size(arrays[name]))]


def forms(arrays, statements):
    """The forms of all elements, by runs with all 0 and with a single 1."""
    ground = run(arrays, statements, zeros(arrays))
    told = {name: [[] for _ in ground[name]] for name in arrays}
    for source, at in everything(arrays):
        behind = run(arrays, statements, with_one(arrays, source, at))
        for name in arrays:
            for place, row in enumerate(told[name]):
                factor = behind[name][place] - ground[name][place]
                if factor != 0:
                    row.append((source, at, factor))
    return {name: [(constant, tuple(row)) for constant, row in zip(ground[name], told[name])] for name in arrays}


def arrays(rng, most=3, elements=12):
    """Some arrays of few elements."""
    told = {}
    for name in rng.sample(["a", "b", "xyz", "abcdefgh", "z"], rng.randint(1, most)):
        told[name] = chosen.bounds(rng, 2, elements // most)
    return told


def shape(section):
    return tuple(len(plain.numbers(part)) for part in section if type(part) is not int)


def once(rng, bounds):
    """A section without an element twice."""
    while True:
        made = chosen.section(rng, bounds, 60)
        if len(set(plain.elements(made))) == len(plain.elements(made)):
            return made


def statement(rng, some):
    """A statement for arrays."""
    while True:
        name = rng.choice(list(some))
        section = once(rng, some[name])
        many = len(plain.elements(section))
        mask = None if rng.random() < 0.6 else tuple(rng.random() < 0.6 for _ in range(many))
        word = rng.choice(["copy", "copy", "add", "add", "times", "fill", "swap", "swap"])
        number = rng.choice([0, 1, -1, 2, -3, 10 ** 30, -10 ** 30])
        if word in ("times", "fill"):
            return (word, name, section, number, mask)
        source = rng.choice(list(some))
        other = chosen.section(rng, some[source], 60) if rng.random() < 0.6 or source != name else section
        if shape(other) != shape(section):
            continue
        if word == "swap":
            elements = [(name, element) for element in plain.elements(section)] + [(source, element) for element in plain.elements(other)]
            if len(set(elements)) < len(elements):
                continue
        return (word, name, section, source, other) + ((number,) if word == "add" else ()) + (mask,)


def program(rng, most=6):
    """Some arrays and statements for them."""
    some = arrays(rng)
    return some, [statement(rng, some) for _ in range(rng.randint(0, most))]


def moving(rng, most=5):
    """Arrays and statements that move contents: swaps, and copies from a section turned about."""
    some = {name: ((1, rng.randint(1, 7)),) for name in rng.sample(["a", "b", "c"], rng.randint(1, 3))}
    told = []
    for _ in range(rng.randint(0, most)):
        name = rng.choice(list(some))
        high = some[name][0][1]
        row = list(range(1, high + 1))
        if rng.random() < 0.5:
            told.append(("copy", name, ((1, high, 1),), name, (rng.sample(row, high),), None))
            continue
        made = statement(rng, some)
        if made[0] == "swap":
            told.append(made)
    return some, told
