"""Wrong inputs to triplets and sets of numbers: of all kinds, for each argument for which an error is listed."""

import unittest

import asked
import plain
import wrong
from sectionwise import nsets, triplets
from sectionwise.errors import InvalidArgument, InvalidTriplet, LimitExceeded
from sectionwise.nsets import NSet
from wrong import raised

FAR = 10 ** 30
TRIPLET = (9, 2, -3)
SOME = [(0, 10, 2), (1, 10, 4)]
SET = NSet([(3, 5, None)])
ROW = (2, 3, 50)


def is_triplet(value):
    return type(value) is tuple and plain.is_part(value)


def are_triplets(value):
    return type(value) in (list, tuple) and len(value) <= 8 and all(is_triplet(triplet) for triplet in value)


def some_triplets():
    found = wrong.values() + [[TRIPLET] * 9, (TRIPLET,) * 9, [TRIPLET] * 8, {TRIPLET}, {TRIPLET: 1}, iter([TRIPLET])]
    found += [TRIPLET, (TRIPLET,), [list(TRIPLET)]]
    for value in wrong.triplets():
        found += [[value], (value,), [TRIPLET, value], [value, TRIPLET], [TRIPLET] * 7 + [value]]
    return found


def is_row(value):
    if type(value) is not tuple or len(value) != 3:
        return False
    first, step, last = value
    if type(first) is not int or not 0 <= first <= FAR or type(step) is not int or not 1 <= step <= 100:
        return False
    return last is None or (type(last) is int and first <= last <= FAR)


def are_rows(value):
    return type(value) in (list, tuple) and len(value) <= 50 and all(is_row(row) for row in value)


def some_rows():
    found = wrong.values() + [[ROW] * 50, [ROW] * 51, (ROW,) * 51, ROW, (ROW,), [list(ROW)], {ROW}, {ROW: 1}]
    edges = [(0, 0, None), (0, 1, None), (0, 100, 0), (0, 101, None), (-1, 1, None), (FAR, 1, FAR), (FAR + 1, 1, None)]
    edges += [(5, 1, 4), (5, 1, 5), (5, -1, 4), (0, 1, FAR + 1), (0, 1, -1), (1, 2), (1, 2, 3, 4), (1, 2, None, None)]
    for value in wrong.values() + edges:
        found += [[value], (value,), [ROW, value], [value, ROW]]
    for value in wrong.values():
        found += [[(value, 1, None)], [(0, value, None)], [(0, 1, value)], (ROW, (0, 1, value))]
    return found


def from_zero(value):
    return type(value) is int and 0 <= value <= FAR


TRIPLETS = {
    "triplet": (wrong.triplets, is_triplet, (InvalidTriplet, "triplet")),
    "one": (wrong.triplets, is_triplet, (InvalidTriplet, "one")),
    "other": (wrong.triplets, is_triplet, (InvalidTriplet, "other")),
    "triplets": (some_triplets, are_triplets, (InvalidTriplet, "triplets")),
    "index": (wrong.values, lambda value: type(value) is int and 0 <= value < 3, (InvalidArgument, "index")),
    "union index": (wrong.values, lambda value: type(value) is int and 0 <= value < 9, (InvalidArgument, "index")),
    "number": (wrong.values, plain.is_far, (InvalidArgument, "number")),
    "low": (wrong.values, plain.is_far, (InvalidArgument, "low")),
}
BOTH = ["one", "other"]


class WrongTriplets(asked.Asked, unittest.TestCase):

    kinds = TRIPLETS
    right = {
        "triplet": TRIPLET, "one": (0, 20, 2), "other": (4, 16, 6), "triplets": SOME, "index": 2, "union index": 5,
        "number": 7, "low": 0,
    }
    functions = [
        (triplets.triplet_size, ["triplet"]), (triplets.triplet_element, ["triplet", "index"]),
        (triplets.triplet_index, ["triplet", "number"]), (triplets.normal, ["triplet"]), (triplets.turned, ["triplet"]),
        (triplets.is_same_set, BOTH), (triplets.is_same_run, BOTH), (triplets.met, BOTH), (triplets.lies_in, BOTH),
        (triplets.less, BOTH), (triplets.apart, ["triplets"]), (triplets.union_size, ["triplets"]),
        (triplets.union_element, ["triplets", "union index"]), (triplets.first_gap, ["triplets", "low"]),
    ]

    def test_all_of_the_interface_are_here(self):
        names = ("triplet_size triplet_element triplet_index normal turned is_same_set is_same_run met lies_in less apart "
                 "union_size union_element first_gap").split()
        self.assertEqual([function.__name__ for function, _ in self.functions], names)
        for name in names:
            self.assertEqual(getattr(triplets, name).__module__, "sectionwise.triplets")

    def test_bools_are_no_integers(self):
        for value in (True, False):
            for function, values, told in [
                (triplets.triplet_size, [(value, 1, 1)], (InvalidTriplet, "triplet")),
                (triplets.normal, [(0, value, 1)], (InvalidTriplet, "triplet")),
                (triplets.turned, [(0, 1, value)], (InvalidTriplet, "triplet")),
                (triplets.met, [(0, 1, 1), (0, 1, value)], (InvalidTriplet, "other")),
                (triplets.apart, [[(0, 1, 1), (0, value, 1)]], (InvalidTriplet, "triplets")),
                (triplets.triplet_element, [(0, 9, 1), value], (InvalidArgument, "index")),
                (triplets.triplet_index, [(0, 9, 1), value], (InvalidArgument, "number")),
                (triplets.union_element, [[(0, 9, 1)], value], (InvalidArgument, "index")),
                (triplets.first_gap, [[(0, 9, 1)], value], (InvalidArgument, "low")),
            ]:
                self.assertEqual(raised(function, *values), told, (function, values))

    def test_the_union_of_none_has_no_element(self):
        for value in [0, 1, -1, None, True, 1.0]:
            self.assertEqual(raised(triplets.union_element, [], value), (InvalidArgument, "index"))

    def test_a_wrong_triplet_comes_ahead_of_a_limit(self):
        far = (0, FAR, 1)
        self.assertEqual(raised(triplets.apart, [far, (0, FAR, 301), None]), (InvalidTriplet, "triplets"))
        self.assertEqual(raised(triplets.less, far, (0, FAR, 301)), (LimitExceeded, 300))
        self.assertEqual(raised(triplets.less, far, (0, FAR, 301.0)), (InvalidTriplet, "other"))


def is_set(value):
    return type(value) is NSet


class WrongSets(asked.Asked, unittest.TestCase):

    kinds = {
        "rows": (some_rows, are_rows, (InvalidArgument, "rows")),
        "n": (wrong.values, from_zero, (InvalidArgument, "n")),
        "low": (wrong.values, from_zero, (InvalidArgument, "low")),
        "bound": (wrong.values, from_zero, (InvalidArgument, "bound")),
        "one": (wrong.values, is_set, (InvalidArgument, "one")),
        "other": (wrong.values, is_set, (InvalidArgument, "other")),
    }
    right = {"rows": [(0, 1, None)], "n": 7, "low": 7, "bound": 7, "one": SET, "other": NSet([(0, 7, 700)])}
    functions = [
        (NSet, ["rows"]), (SET.has, ["n"]), (SET.least, ["low"]), (SET.how_many, ["bound"]), (nsets.union, BOTH),
        (nsets.meet, BOTH), (nsets.complement, ["one"]),
    ]

    def test_all_of_the_interface_are_here(self):
        for name in "NSet union meet complement".split():
            self.assertEqual(getattr(nsets, name).__module__, "sectionwise.nsets")
        for name in "__init__ __eq__ has least how_many tail".split():
            self.assertIn(name, vars(NSet))

    def test_bools_are_no_integers(self):
        for value in (True, False):
            for rows in [[(value, 1, None)], [(0, value, None)], [(0, 1, value)], [ROW, (value, 2, 1)]]:
                self.assertEqual(raised(NSet, rows), (InvalidArgument, "rows"))
            self.assertEqual(raised(SET.has, value), (InvalidArgument, "n"))
            self.assertEqual(raised(SET.least, value), (InvalidArgument, "low"))
            self.assertEqual(raised(SET.how_many, value), (InvalidArgument, "bound"))

    def test_wrong_rows_come_ahead_of_the_limit(self):
        many = [(0, step, None) for step in (99, 98, 97)]
        self.assertEqual(raised(NSet, many), (LimitExceeded, 27720))
        for value in wrong.values() + [(0, 101, None), (4, 1, 3)]:
            if not is_row(value):
                self.assertEqual(raised(NSet, many + [value]), (InvalidArgument, "rows"), value)

    def test_wrong_sets_come_ahead_of_the_limit(self):
        one, other = NSet([(0, 99, None)]), NSet([(0, 98, None)])
        limit = NSet([(0, 97, None)])
        for function in (nsets.union, nsets.meet):
            self.assertIsNone(raised(function, one, other))
            self.assertEqual(raised(function, function(one, other), limit), (LimitExceeded, 27720))
            self.assertEqual(raised(function, function(one, other), [(0, 97, None)]), (InvalidArgument, "other"))
            self.assertEqual(raised(function, None, limit), (InvalidArgument, "one"))

    def test_a_set_is_equal_to_nothing_else(self):
        for one in [SET, NSet([]), NSet([(0, 1, None)])]:
            for value in wrong.values():
                if not is_set(value):
                    self.assertIs(one == value, False)
                    self.assertIs(value == one, False)
                    self.assertIs(one != value, True)


if __name__ == "__main__":
    unittest.main()
