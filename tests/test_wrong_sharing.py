"""Wrong inputs to shared storage: of all kinds, for each argument for which an error is listed."""

import unittest

import asked
import plain
import wrong
from sectionwise import sharing
from sectionwise.errors import InvalidArgument, InvalidLayout

FAR = 10 ** 30
A, D, X = ("a", 1, ((1, 10),)), ("d", 2, ((0, 3),)), ("x", 1, ())
THREE = (A, D, X)
HOLD = ((("a", (4,)), ("d", (1,))), (("x", ()), ("d", ())))


def is_name(value):
    return type(value) is str and 1 <= len(value) <= 8 and set(value) <= set("abcdefghijklmnopqrstuvwxyz")


def is_variable(value):
    if type(value) is not tuple or len(value) != 3 or not is_name(value[0]):
        return False
    _, size, bounds = value
    if type(size) is not int or not 1 <= size <= 16 or type(bounds) is not tuple or len(bounds) > 7:
        return False
    for pair in bounds:
        if type(pair) is not tuple or len(pair) != 2 or not all(plain.is_far(number) for number in pair) or pair[0] > pair[1]:
            return False
    return True


def are_variables(value):
    if type(value) not in (list, tuple) or not 1 <= len(value) <= 40 or not all(is_variable(one) for one in value):
        return False
    return len({name for name, _, _ in value}) == len(value)


def is_member(table, value):
    if type(value) is not tuple or len(value) != 2 or type(value[0]) is not str or value[0] not in table or type(value[1]) is not tuple:
        return False
    return value[1] == () or plain.is_element(table[value[0]], value[1])


def are_rows(some, value):
    if type(value) not in (list, tuple) or len(value) > 40:
        return False
    table = {name: bounds for name, _, bounds in some}
    for row in value:
        if type(row) not in (list, tuple) or not 2 <= len(row) <= 10 or not all(is_member(table, member) for member in row):
            return False
    return True


def some_variables():
    found = wrong.values() + [THREE, list(THREE), [list(A)], [A, A], [A[:2]], [A + (1,)], {A}, {A: 1}, iter([A]), A, "adx"]
    for value in wrong.values():
        found += [[value], (value,), [A, value], [value, A], (A, D, X, value)]
        for at in range(3):
            found.append([X, A[:at] + (value,) + A[at + 1:]])
        found += [[("b", 1, (value,))], [("b", 1, ((value, 1),))], [("b", 1, ((1, value),))], [("b", 1, ((1, 2), (1, value)))]]
    return found


def some_rows():
    right = [("a", (3,)), ("d", ())]
    found = wrong.values() + [HOLD, list(HOLD), [right] * 40, [right] * 41, [right[:1]], [right * 5], [right * 6], {HOLD[0]}, iter([right])]
    for value in wrong.values():
        found += [[value], (value,), [right, value], [[value, right[0]]], [[right[0], value]], [(right[0], right[1], value)]]
        found += [[[("a", value), right[1]]], [[(value, (3,)), right[1]]], [[("a", (value,)), right[1]]], [[right[1], ("x", (value,))]]]
    return found


def is_name_here(value):
    return type(value) is str and value in ("a", "d", "x")


KINDS = {
    "variables": (some_variables, are_variables, (InvalidLayout, "variables")),
    "rows": (some_rows, lambda value: are_rows(THREE, value), (InvalidLayout, "rows")),
    "one": (wrong.values, is_name_here, (InvalidArgument, "one")),
    "other": (wrong.values, is_name_here, (InvalidArgument, "other")),
    "number": (wrong.values, lambda value: type(value) is int and 0 <= value < 10, (InvalidArgument, "number")),
}
LAYOUT = ["variables", "rows"]


def with_thing(function):
    """A function that takes any object, of which no error is told, with one."""
    def called(variables, rows):
        return function(variables, rows, None)
    called.__name__ = function.__name__
    return called


def touched(variables, rows, one, other, number):
    return sharing.touched(variables, rows, one, number, other)


class WrongSharing(asked.Asked, unittest.TestCase):

    kinds = KINDS
    right = {"variables": THREE, "rows": HOLD, "one": "a", "other": "d", "number": 4}
    functions = [
        (sharing.offsets, LAYOUT), (sharing.idle, LAYOUT), (with_thing(sharing.are_bases), LAYOUT), (sharing.ring, LAYOUT),
        (with_thing(sharing.is_ring), LAYOUT), (sharing.shared, LAYOUT + ["one", "other"]),
        (touched, LAYOUT + ["one", "other", "number"]), (sharing.pairs_number, LAYOUT + ["one", "other"]),
        (sharing.twins_number, LAYOUT + ["one", "other"]),
    ]

    def test_right_ones_of_each_argument(self):
        # Rows of right variables that are no others' are wrong themselves.
        for value in some_variables():
            if are_variables(value):
                self.assertIsNone(wrong.raised(sharing.offsets, value, []))
                self.assertEqual(wrong.raised(sharing.offsets, value, HOLD) is None, are_rows(value, HOLD))
        for value in some_rows():
            if are_rows(THREE, value):
                self.assertIsNone(wrong.raised(sharing.offsets, THREE, value))

    def test_all_of_the_interface_are_here(self):
        names = "offsets idle are_bases ring is_ring shared touched pairs_number twins_number".split()
        self.assertEqual([function.__name__ for function, _ in self.functions], names)


if __name__ == "__main__":
    unittest.main()
