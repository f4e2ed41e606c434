"""Wrong inputs to families and clashes: of all kinds, for each argument for which an error is listed."""

import unittest

import asked
import wrong
from sectionwise import clashes, families
from sectionwise.errors import InvalidArgument, InvalidFamily
from sectionwise.families import Family

FAR = 10 ** 30
ONE, OTHER = Family((1, 0), (0, 1), 1), Family((2, 3), (1, 1), -4)
FIRST = ("a", ONE, "b", OTHER)


def is_family(value):
    return type(value) is Family


def is_form(value):
    return type(value) is tuple and len(value) == 2 and all(type(number) is int and abs(number) <= 10 ** 6 for number in value)


def is_n(value):
    return type(value) is int and 0 <= value <= FAR


def is_step(value):
    return type(value) is int and abs(value) <= 12 and value != 0


def is_assignment(value):
    if type(value) is not tuple or len(value) != 4:
        return False
    return [type(part) for part in value] == [str, Family, str, Family]


def forms():
    found = wrong.values() + [(0, 0), (10 ** 6, -10 ** 6), (10 ** 6 + 1, 0), (0, -10 ** 6 - 1), [0, 0], (0, 0, 0), (0,)]
    for value in wrong.values():
        found += [(value, 0), (0, value), (value, value), [value, 0], (value,)]
    return found


def steps():
    return wrong.values() + [12, -12, 13, -13, 5, -1]


def some_orders():
    return wrong.values() + ["forward", "backward", "Forward", "back", b"forward", ["forward"], ("backward",), {"forward": 1}]


def is_order(value):
    return type(value) is str and value in ("forward", "backward")


def assignments():
    found = wrong.values() + [FIRST, list(FIRST), FIRST[:3], FIRST + ("a",), FIRST[:2], ("", ONE, "", ONE)]
    for value in wrong.values():
        for at in range(4):
            found.append(FIRST[:at] + (value,) + FIRST[at + 1:])
    return found


KINDS = {
    "one": (wrong.values, is_family, (InvalidArgument, "one")),
    "other": (wrong.values, is_family, (InvalidArgument, "other")),
    "family": (wrong.values, is_family, (InvalidArgument, "family")),
    "n": (wrong.values, is_n, (InvalidArgument, "n")),
    "low": (forms, is_form, (InvalidArgument, "low")),
    "high": (forms, is_form, (InvalidArgument, "high")),
    "order": (some_orders, is_order, (InvalidArgument, "order")),
    "first": (assignments, is_assignment, (InvalidArgument, "first")),
    "last": (assignments, is_assignment, (InvalidArgument, "last")),
    "first form": (forms, is_form, (InvalidFamily, "first")),
    "last form": (forms, is_form, (InvalidFamily, "last")),
    "step": (steps, is_step, (InvalidFamily, "step")),
}
BOTH = ["one", "other"]


class WrongFamilies(asked.Asked, unittest.TestCase):

    kinds = KINDS
    right = {
        "one": ONE, "other": OTHER, "family": ONE, "n": 7, "low": (0, 0), "high": (9, 1), "order": "backward", "first": FIRST, "last": FIRST,
        "first form": (1, 2), "last form": (0, -3), "step": 5,
    }
    functions = [
        (Family, ["first form", "last form", "step"]), (families.triplet_at, ["family", "n"]), (families.size_at, ["family", "n"]),
        (families.alike_sizes, BOTH), (families.within, ["family", "low", "high"]), (families.same_sequence, BOTH),
        (families.same_elements, BOTH), (clashes.shares, BOTH), (clashes.inside, BOTH), (clashes.least_shared, BOTH + ["n"]),
        (clashes.clashes, BOTH + ["order"]), (clashes.needs_copy, BOTH), (clashes.first_clash, BOTH + ["n", "order"]),
        (clashes.may_swap, ["first", "last"]),
    ]

    def test_all_of_the_interface_are_here(self):
        names = ("Family triplet_at size_at alike_sizes within same_sequence same_elements shares inside least_shared clashes "
                 "needs_copy first_clash may_swap").split()
        self.assertEqual([function.__name__ for function, _ in self.functions], names)


if __name__ == "__main__":
    unittest.main()
