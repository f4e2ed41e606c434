"""What calls raise, and objects of all kinds, of which most are wrong wherever they are put."""

import sectionwise.errors as errors
from sectionwise.families import Family
from sectionwise.flows import Flow
from sectionwise.nsets import NSet, complement
from sectionwise.storage import Store

WITH_PART = [
    errors.InvalidTriplet, errors.InvalidSection, errors.InvalidFamily, errors.InvalidLayout, errors.InvalidArgument,
]


def raised(function, *given):
    """What a call raises: the error's class and its attributes, None if it raises nothing."""
    try:
        function(*given)
    except errors.LimitExceeded as error:
        return type(error), error.limit
    except errors.InvalidProgram as error:
        return type(error), error.at, error.part
    except tuple(WITH_PART) as error:
        return type(error), error.part
    except errors.SectionError as error:
        return type(error), None
    return None


class Own:
    """A class that no one knows."""


def some_function(value):
    return value


def values():
    """New objects of the built-in kinds and of the package's classes; some of them cannot be hashed."""
    numbers = [0, 1, -1, 2, 7, 5001, 10 ** 30, 10 ** 30 + 1, -10 ** 30 - 1, 10 ** 400]
    near = [True, False, 1.0, 0.0, 1.5, float("nan"), float("inf"), 1j, None, Ellipsis, NotImplemented]
    texts = ["", "1", "whole", "section", "from", "bounds", "a", "a" * 13, b"", b"whole", bytearray(b"ab")]
    rows = [[], [1], [[]], (), (1,), (1, 2), (1, 4, 1), ((),), ((1, 4),), ([1, 4],), [(1, 4)], [(1, 4, 1)], (None,)]
    mixed = [{}, {1: 2}, {"whole": 1}, set(), {1}, frozenset(), frozenset([1]), range(4), slice(1, 4), memoryview(b"a")]
    passing = [iter([1]), (number for number in (1, 4)), zip(), map(abs, []), enumerate([]), reversed([]), {}.keys()]
    things = [object(), Own(), Own, int, tuple, len, some_function, lambda: 1, type, super, property(), staticmethod(len)]
    own = [
        errors.SectionError, errors.SectionError(), errors.InvalidTriplet("one"), errors.InvalidSection("bounds"),
        errors.InvalidFamily("step"), errors.InvalidLayout("units"), errors.InvalidArgument("place"),
        errors.InvalidProgram((0,), "row"), errors.LimitExceeded(5000), ValueError("x"),
        NSet, NSet([]), NSet([(0, 1, None)]), complement(NSet([(3, 97, None)])), NSet([(0, 98, 7), (5, 99, None)]),
        Family, Family((1, 0), (0, 1), 1), Family((0, 0), (5, 0), -2),
        Flow, Flow({"a": ((1, 4),)}, []), Flow({"b": ((1, 2),)}, [("fill", "b", (1,), 5, None)]),
        Store, Store(3, []), Store(3, [("a", "integer", 0, 3)]),
    ]
    nested = []
    nested.append(nested)
    return numbers + near + texts + rows + mixed + passing + things + own + [nested]


def bounds():
    """What may be put for bounds: anything, and tuples with anything at each place."""
    found = values()
    for value in values():
        found += [(value,), ((value, 4),), ((1, value),), ((1, 2), value), ((1, 2), (1, value)), ((value, 2), (1, 2))]
    far = 5 * 10 ** 29
    found += [((far, far + 1),), ((-far - 1, 0),), ((1, -far - 1),), ((far + 1, far),), ((1, 2),) * 8, [(1, 2)]]
    found += [((1, 2, 3),), ((1,),), ([1, 2],), ((1, 2), [1, 2]), (1, 2), ((1, 2), ()), ((1, None), (1, 2))]
    return found


def elements(many):
    """What may be put for an element with so many subscripts."""
    found = values() + [(1,) * (many - 1), (1,) * (many + 1), [1] * many]
    for value in values():
        for at in range(many):
            found.append((1,) * at + (value,) + (1,) * (many - 1 - at))
    return found


def parts():
    """What may be put for a part of a section."""
    found = values() + [[1] * 65, [1] * 64, (1, 4, 0), (1, 4), (1, 4, 1, 1), [1, 4, 1], [[1]], ((1, 4, 1),)]
    for value in values():
        found += [[value], [1, value], (value, 4, 1), (1, value, 1), (1, 4, value)]
    return found


def triplets():
    """What may be put for a triplet."""
    far = 10 ** 30
    found = values() + [(1, 4, 0), (1, 4), (1, 4, 1, 1), [1, 4, 1], ((1, 4, 1),), (far, -far, -far), (far, 0, 1)]
    found += [(far + 1, 4, 1), (1, far + 1, 1), (1, 4, far + 1), (-far - 1, 4, 1), (1, -far - 1, 1), (4, 1, -far - 1)]
    for value in values():
        found += [(value, 4, 1), (1, value, 1), (1, 4, value)]
    return found


def sections(many):
    """What may be put for a section of an array with so many dimensions."""
    found = values() + [(1,) * (many - 1), (1,) * (many + 1), [1] * many, (1, 4, 1)]
    for part in parts():
        for at in range(many):
            found.append((1,) * at + (part,) + (1,) * (many - 1 - at))
    # With a part without subscripts the other ones may be far, but only so far.
    far = 10 ** 30
    for part in [far + 1, -far - 1, (far + 1, 0, 1), (0, -far - 1, 1), (1, 0, far + 1), [-far - 1], True, [True], None]:
        found.append(((1, 0, 1),) + (part,) * (many - 1) if many > 1 else (part,))
    return found
