"""What the tests of families compare with: triplets at one n, gone through element by element."""

import plain
from sectionwise.families import Family

STEPS = [step for step in range(-12, 13) if step != 0]
SOME_STEPS = [-3, -2, -1, -1, 1, 1, 1, 2, 3]


def row(family, n):
    """The elements of a family at n, in order."""
    first, last = [a + b * n for a, b in (family.first, family.last)]
    return plain.numbers((first, last, family.step))


def first_clash(one, other, order):
    """What is read too late first where elements are copied one by one, None if nothing is."""
    if len(one) != len(other):
        return None
    places = list(range(len(one)))
    written = {}
    for place in places if order == "forward" else places[::-1]:
        if other[place] in written:
            return (other[place], written[other[place]], place)
        written[one[place]] = place
    return None


def needs_copy(one, other):
    return all(first_clash(one, other, order) is not None for order in ("forward", "backward"))


def may_swap(first, last, n):
    """Whether neither of two assignments writes what the other one writes or reads."""
    for one, other in [(first, last), (last, first)]:
        written = {(one[0], element) for element in row(one[1], n)}
        for name, family in [other[:2], other[2:]]:
            if written & {(name, element) for element in row(family, n)}:
                return False
    return True


def family(rng, size=9, slope=3, steps=None):
    """A family whose forms are near 0."""
    if steps is None:
        steps = rng.choice([STEPS, SOME_STEPS])
    forms = [(rng.randint(-size, size), rng.randint(-slope, slope)) for _ in range(2)]
    return Family(forms[0], forms[1], rng.choice(steps))


def moved(rng, one, size=5, slope=1):
    """A family that lies near another one, perhaps turned about."""
    first, last = [(a + rng.randint(-size, size), b + rng.randint(-slope, slope)) for a, b in (one.first, one.last)]
    if rng.random() < 0.4:
        return Family(last, first, -one.step)
    return Family(first, last, one.step if rng.random() < 0.7 else rng.choice(STEPS))


def pair(rng):
    """Two families that are alike in some way, or not."""
    one = family(rng, rng.choice([3, 9, 30]))
    if rng.random() < 0.5:
        return one, moved(rng, one)
    return one, family(rng, rng.choice([3, 9, 30]))


def far_pair(rng):
    """Two families of few elements that come together at a far n, which is told, too."""
    n = rng.randint(1000, 400000)
    slope, more = rng.randint(-2, 2), rng.choice([-2, -1, 1, 2])
    many, its = rng.randint(-3, 30), rng.randint(-3, 30)
    low = rng.randint(-1000, 1000)
    one = Family((low, slope), (low + many, slope), rng.choice([1, 1, 2, 3, 5, 12]))
    low = low - more * n + rng.randint(-9, 9)
    other = Family((low, slope + more), (low + its, slope + more), rng.choice([one.step, 1, 2, 4, 7, 11]))
    if rng.random() < 0.3:
        other = Family(other.last, other.first, -other.step)
    return one, other, n
