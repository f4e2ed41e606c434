"""Arrays, sections and dummies for the tests, chosen by a generator that always begins alike."""

import random

import plain


def generator(seed):
    return random.Random(seed)


def bounds(rng, most=7, size=300, least=0):
    """Bounds of an array with at most so many elements."""
    many = rng.randint(1, most)
    told = []
    made = 1
    for _ in range(many):
        extent = rng.choice([least, 1, 1, 2, 2, 3, 4, 5, 7])
        if made * max(1, extent) > size:
            extent = 1
        made *= max(1, extent)
        low = rng.choice([-3, -1, 0, 0, 1, 1, 1, 2, 5])
        high = low + extent - 1
        if extent == 0:
            high -= rng.choice([0, 0, 1, 9])
        told.append((low, high))
    return tuple(told)


def empty_part(rng):
    """A part without subscripts."""
    if rng.random() < 0.3:
        return []
    first, beyond, step = rng.randint(-9, 9), rng.randint(1, 9), rng.randint(1, 4)
    if rng.random() < 0.5:
        return (first, first - beyond, step)
    return (first, first + beyond, -step)


def any_part(rng):
    """A part that need not lie within any bounds."""
    return rng.choice([
        rng.randint(-50, 50), (rng.randint(-50, 50), rng.randint(-50, 50), rng.choice([-7, -2, -1, 1, 2, 7])),
        [rng.randint(-50, 50) for _ in range(rng.randint(0, 4))], empty_part(rng),
    ])


def triplet(rng, low, high):
    """A triplet with elements within a range that has numbers."""
    first = rng.randint(low, high)
    step = rng.choice([-4, -3, -2, -1, -1, 1, 1, 1, 2, 3, 4])
    room = (high - first) // step if step > 0 else (first - low) // -step
    many = rng.choice([room, rng.randint(0, room)])
    slack = rng.randint(0, abs(step) - 1)
    return (first, first + many * step + (slack if step > 0 else -slack), step)


def part(rng, low, high):
    """A part with subscripts within a range that has numbers."""
    kind = rng.random()
    if kind < 0.2:
        return rng.randint(low, high)
    if kind < 0.4:
        return (low, high, 1)
    if kind < 0.8:
        return triplet(rng, low, high)
    return [rng.randint(low, high) for _ in range(rng.randint(1, 5))]


def section(rng, its, most=2000):
    """A section of an array, most often with elements if the array has some."""
    if any(high < low for low, high in its) or rng.random() < 0.08:
        parts = [any_part(rng) for _ in its]
        parts[rng.randrange(len(parts))] = empty_part(rng)
        return tuple(parts)
    parts = []
    many = 1
    for low, high in its:
        one = part(rng, low, high)
        if many * len(plain.numbers(one)) > most:
            one = rng.randint(low, high)
        many *= len(plain.numbers(one))
        parts.append(one)
    return tuple(parts)


def full_section(its):
    return tuple((low, high, 1) for low, high in its)


def contiguous(rng, its):
    """A section of an array that is contiguous."""
    for _ in range(20):
        one = section(rng, its)
        if plain.stretches(plain.places(its, one) if plain.elements(one) else []) <= 1:
            return one
    if rng.random() < 0.5 or any(high < low for low, high in its):
        return full_section(its)
    # Whole ahead of one part, single behind it.
    turn = rng.randrange(len(its))
    parts = []
    for at, (low, high) in enumerate(its):
        first = rng.randint(low, high)
        if at < turn:
            parts.append((low, high, 1))
        elif at == turn:
            parts.append((first, rng.randint(first, high), 1))
        else:
            parts.append(first)
    return tuple(parts)


def handed_part(rng, its):
    """A part that a holder can hand on."""
    kind = rng.random()
    if kind < 0.3:
        return "whole"
    if kind < 0.7 and its.elements:
        return ("from", rng.choice(its.elements))
    return ("section", contiguous(rng, its.whole_rows()))


def dummy(rng, many):
    """A dummy for so many places that are handed on."""
    if rng.random() < 0.4:
        its = bounds(rng, 3, 30, least=1)
        if len(its) > 1 and rng.random() < 0.2:
            its = ((1, rng.choice([0, 0, -4])),) + its[1:]
        return its[:-1] + ((its[-1][0], None),)
    for _ in range(20):
        one = bounds(rng, 4, max(1, many), least=1)
        if len(plain.array(one)) <= many:
            return one
    return ((1, rng.randint(0, many)),)


def same_many(rng, low, high, many):
    """A triplet with so many elements within a range that has as many numbers."""
    if many == 0:
        return empty_triplet(rng)
    steps = [step for step in (1, 1, 1, 2, 3) if (many - 1) * step <= high - low]
    step = rng.choice(steps)
    first = rng.randint(low, high - (many - 1) * step)
    last = first + (many - 1) * step
    if rng.random() < 0.4:
        first, last, step = last, first, -step
    if many == 1:
        step = rng.choice([-5, -1, 1, 4])
        return (first, first + step // 2 if step > 0 else first - 1 if step < -1 else first, step)
    return (first, last + rng.randint(0, abs(step) - 1) * (1 if step > 0 else -1), step)


def empty_triplet(rng):
    """A triplet without elements."""
    while True:
        one = empty_part(rng)
        if type(one) is tuple:
            return one


def assignment(rng, most=4, extents=(1, 2, 3, 4, 5, 6)):
    """An array with two sections of one shape, with the same parts kept and without lists."""
    bounds, one, other = [], [], []
    for _ in range(rng.randint(1, most)):
        low = rng.randint(-3, 3)
        extent = rng.choice(extents)
        high = low + extent - 1
        bounds.append((low, high))
        if rng.random() < 0.2:
            number = rng.randint(low, high)
            one.append(number)
            other.append(number if rng.random() < 0.8 else rng.randint(low, high))
        else:
            many = rng.randint(1, extent) if rng.random() < 0.97 else 0
            one.append(same_many(rng, low, high, many))
            other.append(one[-1] if rng.random() < 0.15 else same_many(rng, low, high, many))
    return tuple(bounds), tuple(one), tuple(other)
