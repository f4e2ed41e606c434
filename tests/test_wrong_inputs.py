"""Wrong inputs to sections and arguments: of all kinds, for each argument for which an error is listed."""

import unittest

import asked
import plain
import wrong
from sectionwise import arguments, sections
from sectionwise.errors import InvalidArgument, InvalidSection, LimitExceeded
from sectionwise.nsets import NSet
from wrong import raised

BOUNDS = ((1, 3), (0, 3))
SECTION = ((1, 3, 1), (0, 2, 1))
LENGTHS = ((1, 3), (1, 3))
PART = ("from", (2, 1))
DUMMY = ((1, 2), (1, 3))
ROW = ("a", BOUNDS, PART, DUMMY, (1, 1), None)


def is_dummy(value):
    if type(value) is tuple and value and type(value[-1]) is tuple and len(value[-1]) == 2 and value[-1][1] is None:
        return plain.is_bounds(value[:-1] + ((value[-1][0], 0),))
    return plain.is_bounds(value)


def is_part(value):
    if type(value) is str:
        return value == "whole"
    if type(value) is not tuple or len(value) != 2 or type(value[0]) is not str:
        return False
    if value[0] == "section":
        return plain.is_section(BOUNDS, value[1])
    return value[0] == "from" and plain.is_element(BOUNDS, value[1])


def is_place(value):
    return type(value) is int and 0 <= value < 12


def parts_handed():
    found = wrong.values()
    for value in wrong.values() + wrong.sections(2):
        found += [("section", value), ("whole", value)]
    for value in wrong.values() + wrong.elements(2):
        found.append(("from", value))
    for value in wrong.values():
        found += [(value,), (value, (1, 1)), [value, (1, 1)], ("from", (1, 1), value)]
    return found


def dummies():
    found = wrong.bounds()
    for value in wrong.values():
        found += [((value, None),), ((1, 2), (value, None)), ((1, value), (1, None)), ((1, None), value), ((1, None), (1, value))]
    return found


def hands():
    found = wrong.values() + [[("whole", DUMMY)] * 9]
    for value in wrong.values():
        found += [[value], (value,), [("whole", DUMMY), value], [("whole", DUMMY, value)]]
    return found


def are_hands(value):
    if type(value) not in (list, tuple) or not 1 <= len(value) <= 8:
        return False
    return all(type(hand) is tuple and len(hand) == 2 for hand in value)


def rows():
    found = wrong.values() + [[ROW] * 9]
    for value in wrong.values():
        found += [[value], (value,), [ROW, value], [(value,) + ROW[1:]], [ROW + (value,)], [ROW[:5], value]]
    return found


def is_call(value):
    if type(value) not in (list, tuple) or not 1 <= len(value) <= 8:
        return False
    return all(type(row) is tuple and len(row) == 6 and type(row[0]) is str and 0 < len(row[0]) < 13 for row in value)


# For each kind of argument: what may be put for it, whether that is right, and what is raised if not.
KINDS = {
    "bounds": (wrong.bounds, plain.is_bounds, (InvalidSection, "bounds")),
    "element": (lambda: wrong.elements(2), lambda value: plain.is_element(BOUNDS, value), (InvalidSection, "element")),
    "place": (wrong.values, is_place, (InvalidArgument, "place")),
    "index": (wrong.values, lambda value: type(value) is int and 0 <= value < 9, (InvalidArgument, "index")),
    "section": (lambda: wrong.sections(2), lambda value: plain.is_section(BOUNDS, value), (InvalidSection, "section")),
    "one": (lambda: wrong.sections(2), lambda value: plain.is_section(BOUNDS, value), (InvalidSection, "one")),
    "other": (lambda: wrong.sections(2), lambda value: plain.is_section(BOUNDS, value), (InvalidSection, "other")),
    "inner": (lambda: wrong.sections(2), lambda value: plain.is_section(LENGTHS, value), (InvalidSection, "inner")),
    "part": (parts_handed, is_part, (InvalidSection, "part")),
    "dummy": (dummies, is_dummy, (InvalidSection, "dummy")),
    "dummy element": (
        lambda: wrong.elements(2), lambda value: plain.is_element(DUMMY, value), (InvalidSection, "element"),
    ),
    "hands": (hands, are_hands, (InvalidArgument, "hands")),
    "rows": (rows, is_call, (InvalidArgument, "rows")),
    "handed part": (parts_handed, is_part, (InvalidSection, "part")),
}

PLACES = ["bounds", "section"]
PAIRS = ["bounds", "one", "other"]
SEATS = ["bounds", "part", "dummy"]
RIGHT = {
    "bounds": BOUNDS, "element": (1, 1), "place": 3, "index": 2, "section": SECTION, "one": SECTION, "other": SECTION,
    "inner": (1, (1, 3, 1)), "part": PART, "dummy": DUMMY, "dummy element": (1, 1), "hands": [(PART, DUMMY)], "rows": [ROW],
}

# Each function of the interface with the kinds of its arguments, in the order of its errors.
FUNCTIONS = [
    (sections.extents, ["bounds"]), (sections.place_of, ["bounds", "element"]), (sections.element_at, ["bounds", "place"]),
    (sections.shape, PLACES), (sections.count, PLACES), (sections.is_once, PLACES), (sections.listed, PLACES),
    (sections.element_of, PLACES + ["index"]), (sections.composed, PLACES + ["inner"]), (sections.stretches, PLACES),
    (sections.is_contiguous, PLACES), (sections.shared, PAIRS), (sections.includes, PAIRS), (sections.same_set, PAIRS),
    (sections.same_sequence, PAIRS), (arguments.handed, ["bounds", "part"]), (arguments.seated, SEATS),
    (arguments.dummy_place, SEATS + ["dummy element"]), (arguments.dummy_element, SEATS + ["place"]),
    (arguments.handed_on, ["bounds", "hands"]), (arguments.call_clash, ["rows"]),
]


class WrongInputs(asked.Asked, unittest.TestCase):

    kinds = KINDS
    right = RIGHT
    functions = FUNCTIONS

    def test_within_hands(self):
        hand = (PART, DUMMY)
        for value in parts_handed():
            if not is_part(value):
                self.assertEqual(raised(arguments.handed_on, BOUNDS, [(value, None), (None, None)]), (InvalidSection, "part"), value)
        for value in dummies():
            if not is_dummy(value):
                for told in [[(PART, value), (None, None)], [hand, ("whole", value)]]:
                    self.assertEqual(raised(arguments.handed_on, BOUNDS, told), (InvalidSection, "dummy"), value)

    def test_within_rows(self):
        for value in wrong.bounds():
            if not plain.is_bounds(value):
                told = raised(arguments.call_clash, [ROW[:2] + (None,) * 4, ("b", value) + ROW[2:]])
                self.assertEqual(told, (InvalidSection, "bounds"), value)
        for at, make, is_right, part in [
            (2, parts_handed, is_part, "part"), (3, dummies, is_dummy, "dummy"),
            (4, lambda: wrong.sections(2), self.is_reached, "written"), (5, lambda: wrong.sections(2), self.is_reached, "read"),
        ]:
            for value in make():
                if not is_right(value):
                    row = ROW[:at] + (value,) + ROW[at + 1:]
                    self.assertEqual(raised(arguments.call_clash, [ROW, row]), (InvalidSection, part), value)
                    self.assertEqual(raised(arguments.call_clash, [row, ROW[:2] + (None,) * 4]), (InvalidSection, part), value)

    def test_bounds_that_cannot_be_compared(self):
        one, other = NSet([(0, 99, None), (0, 98, None)]), NSet([(0, 97, None)])
        self.assertEqual(raised(lambda: one == other), (LimitExceeded, 27720))
        for first, second in [(one, other), ((one,), (other,)), (((one, 4),), ((other, 4),)), ([one], [other]), (BOUNDS, one), (one, BOUNDS)]:
            told = raised(arguments.call_clash, [ROW[:1] + (first,) + ROW[2:], ROW[:1] + (second,) + ROW[2:]])
            self.assertEqual(told, (InvalidArgument, "rows"))
            told = raised(arguments.call_clash, [("b", BOUNDS) + ROW[2:], ROW[:1] + (one,) + ROW[2:]])
            self.assertEqual(told, (InvalidSection, "bounds"))
        nan = float("nan")
        for value in [one, nan, [nan], {}, None]:
            told = raised(arguments.call_clash, [ROW[:1] + (value,) + ROW[2:], ROW[:1] + (value,) + ROW[2:]])
            self.assertEqual(told, (InvalidSection, "bounds"), value)

    def is_reached(self, value):
        return value is None or plain.is_section(DUMMY, value)

    def test_bools_are_no_integers(self):
        for value in (True, False):
            one = ((0, 1),)
            for function, values, part in [
                (sections.extents, [((value, 1),)], "bounds"), (sections.extents, [((0, value),)], "bounds"),
                (sections.place_of, [one, (value,)], "element"), (sections.element_at, [one, value], "place"),
                (sections.count, [one, (value,)], "section"), (sections.count, [one, ([value],)], "section"),
                (sections.count, [one, ((value, 1, 1),)], "section"), (sections.count, [one, ((0, value, 1),)], "section"),
                (sections.count, [one, ((0, 1, True),)], "section"), (sections.element_of, [one, (1,), value], "index"),
                (sections.composed, [one, ([0, 1],), (value,)], "inner"), (sections.shared, [one, (0,), (value,)], "other"),
                (arguments.handed, [one, ("from", (value,))], "part"), (arguments.handed, [one, ("section", (value,))], "part"),
                (arguments.seated, [one, "whole", ((value, None),)], "dummy"), (arguments.seated, [one, "whole", value], "dummy"),
                (arguments.dummy_place, [one, "whole", one, (value,)], "element"),
                (arguments.dummy_element, [one, "whole", one, value], "place"),
                (arguments.call_clash, [[("a", one, "whole", one, (value,), None)]], "written"),
                (arguments.call_clash, [[("a", one, "whole", one, None, (value,))]], "read"),
                (arguments.call_clash, [[("a", one, "whole", one, value, None)]], "written"),
            ]:
                told = raised(function, *values)
                self.assertIsNotNone(told, (function, values))
                self.assertEqual(told[1], part, (function, values))


class Functions(unittest.TestCase):

    def test_all_of_the_interface_are_here(self):
        listed = {
            sections: "extents place_of element_at shape count is_once element_of listed composed stretches is_contiguous "
                      "shared includes same_set same_sequence",
            arguments: "handed seated dummy_place dummy_element handed_on call_clash",
        }
        tested = {function for function, _ in FUNCTIONS}
        for module, names in listed.items():
            for name in names.split():
                function = getattr(module, name)
                self.assertEqual(function.__module__, module.__name__)
                self.assertIn(function, tested)


if __name__ == "__main__":
    unittest.main()
