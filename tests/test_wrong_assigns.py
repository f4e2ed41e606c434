"""Wrong inputs to assignments: of all kinds, for each argument for which an error is listed."""

import unittest

import asked
import plain
import wrong
from sectionwise import assigns
from sectionwise.errors import InvalidArgument, InvalidSection
from wrong import raised

BOUNDS = ((1, 3), (0, 3))
ONE = ((2, 3, 1), (0, 2, 2))
OTHER = ((1, 2, 1), (0, 2, 2))
ORDER = ((1, 1), (0, -1))
CONTENTS = list(range(12))
PAIR = (ONE, OTHER)


def is_section(value):
    return plain.is_section(BOUNDS, value)


def is_order(value):
    if type(value) is not tuple or len(value) != 2:
        return False
    for step in value:
        if type(step) is not tuple or len(step) != 2 or type(step[0]) is not int or type(step[1]) is not int:
            return False
    return sorted(loop for loop, _ in value) == [0, 1] and all(abs(way) == 1 for _, way in value)


def orders():
    found = wrong.values() + plain.orders(2) + [list(ORDER), ORDER[:1], ORDER + ((2, 1),), ((0, 1), (0, 1)), ()]
    for value in wrong.values():
        found += [(value,), (value, (0, 1)), ((1, 1), value), ((value, 1), (0, 1)), ((1, value), (0, 1)), ((1, 1), (0, value))]
        found += [((value, 1), (value, -1)), ((0, 1), (1, 1), value)]
    return found


def is_contents(value):
    return type(value) in (list, tuple) and len(value) == 12


def some_contents():
    found = wrong.values() + [CONTENTS, tuple(CONTENTS), CONTENTS[1:], CONTENTS + [1], range(12), "a" * 12, b"a" * 12]
    found += [dict.fromkeys(CONTENTS), set(CONTENTS), iter(CONTENTS), [None] * 12, bytearray(12)]
    for value in wrong.values():
        found += [[value] * 12, [value] * 11, (value,) * 13]
    return found


def is_pair(value):
    if type(value) is not tuple or len(value) != 2 or not is_section(value[0]) or not is_section(value[1]):
        return False
    one, other = value
    many = [[len(plain.numbers(part)) for part in section if type(part) is not int] for section in value]
    return many[0] == many[1] and len(set(plain.elements(one))) == len(plain.elements(one))


def pairs():
    found = wrong.values() + [PAIR, list(PAIR), PAIR[:1], PAIR + (ONE,), (ONE, (1, (0, 3, 3))), (([1, 1], 0), ((1, 2, 1), 0))]
    for value in wrong.sections(2):
        found += [(value, OTHER), (ONE, value)]
    for value in wrong.values():
        found += [[value, value], (value, value), (value,), (ONE, OTHER, value)]
    return found


KINDS = {
    "bounds": (wrong.bounds, plain.is_bounds, (InvalidSection, "bounds")),
    "one": (lambda: wrong.sections(2), is_section, (InvalidSection, "one")),
    "other": (lambda: wrong.sections(2), is_section, (InvalidSection, "other")),
    "order": (orders, is_order, (InvalidArgument, "order")),
    "contents": (some_contents, is_contents, (InvalidArgument, "contents")),
    "first": (pairs, is_pair, (InvalidArgument, "first")),
    "last": (pairs, is_pair, (InvalidArgument, "last")),
}
TWO = ["bounds", "one", "other"]


class WrongAssignments(asked.Asked, unittest.TestCase):

    kinds = KINDS
    right = {
        "bounds": BOUNDS, "one": ONE, "other": OTHER, "order": ORDER, "contents": CONTENTS, "first": PAIR, "last": PAIR,
    }
    functions = [
        (assigns.does, TWO + ["order"]), (assigns.clash, TWO + ["order"]), (assigns.signs, TWO), (assigns.good_orders, TWO),
        (assigns.good_order, TWO), (assigns.copy_needed, TWO), (assigns.done, TWO + ["contents"]),
        (assigns.done_by, TWO + ["order", "contents"]), (assigns.may_change_places, ["bounds", "first", "last"]),
    ]

    def test_all_of_the_interface_are_here(self):
        names = "does clash signs good_orders good_order copy_needed done done_by may_change_places".split()
        self.assertEqual([function.__name__ for function, _ in self.functions], names)
        for name in names:
            self.assertEqual(getattr(assigns, name).__module__, "sectionwise.assigns")

    def test_bools_are_no_integers(self):
        one = ((0, 1),)
        part = ((0, 1, 1),)
        for value in (True, False):
            for function, values, told in [
                (assigns.signs, [((0, value),), part, part], "bounds"), (assigns.signs, [one, ((0, value, 1),), part], "one"),
                (assigns.does, [one, part, (value,), None], "other"), (assigns.does, [one, part, part, ((value, 1),)], "order"),
                (assigns.clash, [one, part, part, ((0, value),)], "order"), (assigns.done, [one, (value,), (0,), [1, 2]], "one"),
                (assigns.done, [one, ([0],), ([value],), [1, 2]], "other"), (assigns.may_change_places, [one, ((value,), (0,)), None], "first"),
                (assigns.may_change_places, [one, ((0,), (0,)), ((0,), (value,))], "last"),
            ]:
                self.assertEqual(raised(function, *values)[1], told, (function, values))

    def test_a_section_comes_ahead_of_lists_and_shapes(self):
        for function in (assigns.signs, assigns.good_orders, assigns.good_order, assigns.copy_needed):
            self.assertEqual(raised(function, BOUNDS, ([2, 3], 0), (1, 4)), (InvalidSection, "other"))
            self.assertEqual(raised(function, BOUNDS, ([2, 3], 0), (1, 3)), (InvalidSection, "list"))
            self.assertEqual(raised(function, BOUNDS, ((2, 3, 1), 0), (1, 3)), (InvalidSection, "kept"))
            self.assertEqual(raised(function, BOUNDS, ((2, 3, 1), 0), ((1, 1, 1), 3)), (InvalidSection, "shape"))


if __name__ == "__main__":
    unittest.main()
