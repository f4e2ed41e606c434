"""Promises 19 and 20 of the functions in sectionwise.families, and what 17 says of sets that come from families."""

import math
import unittest

import chosen
import copied
from sectionwise import families
from sectionwise.clashes import clashes, inside, may_swap, needs_copy, shares
from sectionwise.errors import InvalidArgument, InvalidFamily, LimitExceeded
from sectionwise.families import Family, alike_sizes, same_elements, same_sequence, size_at, triplet_at, within
from sectionwise.nsets import NSet, complement, meet, union
from wrong import Own, raised, values

END = 10 ** 6
FAR = 10 ** 30
LIMIT = (LimitExceeded, 27720)
NEVER, ALWAYS = NSet([]), NSet([(0, 1, None)])


def only(n):
    return NSet([(n, 1, n)])


class Families(unittest.TestCase):

    def test_attributes(self):
        family = Family((1, -2), (3, 4), -5)
        self.assertEqual((family.first, family.last, family.step), ((1, -2), (3, 4), -5))
        family = Family(step=7, last=(0, 0), first=(END, -END))
        self.assertEqual((family.first, family.last, family.step), ((END, -END), (0, 0), 7))

    def test_forms_and_steps_go_just_so_far(self):
        for number in [END, -END, 0, 1]:
            for form in [(number, 0), (0, number), (number, number)]:
                self.assertIsNone(raised(Family, form, (0, 0), 1))
                self.assertIsNone(raised(Family, (0, 0), form, 1))
        for number in [END + 1, -END - 1, FAR, True, False, 1.0, None, "1", (1,)]:
            for form in [(number, 0), (0, number), (number, number), number, (0, 0, number), (number,)]:
                self.assertEqual(raised(Family, form, (0, 0), 1), (InvalidFamily, "first"))
                self.assertEqual(raised(Family, (0, 0), form, 1), (InvalidFamily, "last"))
        for step in copied.STEPS:
            self.assertIsNone(raised(Family, (0, 0), (0, 0), step))
        for step in [0, 13, -13, FAR, True, False, 1.0, None, "1", (1,), [1]]:
            self.assertEqual(raised(Family, (0, 0), (0, 0), step), (InvalidFamily, "step"))

    def test_forms_are_tuples_of_two(self):
        for form in [[0, 0], (), (1,), (1, 2, 3), {0: 0, 1: 1}, "ab", None]:
            self.assertEqual(raised(Family, form, (0, 0), 1), (InvalidFamily, "first"))
            self.assertEqual(raised(Family, (0, 0), form, 1), (InvalidFamily, "last"))

    def test_the_first_wrong_part_is_told(self):
        self.assertEqual(raised(Family, (END + 1, 0), None, 0), (InvalidFamily, "first"))
        self.assertEqual(raised(Family, (0, 0), (0, True), 0), (InvalidFamily, "last"))
        self.assertEqual(raised(Family, [0, 0], (0, 0), 0), (InvalidFamily, "first"))

    def test_equality(self):
        one = Family((1, 2), (3, 4), 5)
        self.assertTrue(one == Family((1, 2), (3, 4), 5))
        self.assertFalse(one != Family((1, 2), (3, 4), 5))
        for other in [
            Family((0, 2), (3, 4), 5), Family((1, 0), (3, 4), 5), Family((1, 2), (0, 4), 5), Family((1, 2), (3, 0), 5), Family((1, 2), (3, 4), -5),
            # The same triplets for all n, but not the same forms.
            Family((1, 2), (4, 4), 5),
        ]:
            self.assertFalse(one == other)
            self.assertTrue(one != other)
        for other in values() + [(1, 2), ((1, 2), (3, 4), 5), Own(), NSet([])]:
            self.assertIs(one == other, type(other) is Family and vars(other) == vars(one))
            self.assertIs(other == one, type(other) is Family and vars(other) == vars(one))

    def test_triplet_at(self):
        family = Family((3, -2), (-1, END), 7)
        for n in [0, 1, 2, 10 ** 6, FAR - 1, FAR]:
            self.assertEqual(triplet_at(family, n), (3 - 2 * n, -1 + END * n, 7))
        self.assertEqual(triplet_at(Family((END, END), (-END, -END), -12), FAR), (END + END * FAR, -END - END * FAR, -12))

    def test_size_at(self):
        rng = chosen.generator(191)
        for _ in range(300):
            family = copied.family(rng, 30)
            for n in range(0, 40, 3):
                self.assertEqual(size_at(family, n), len(copied.row(family, n)), (vars(family), n))
        self.assertEqual(size_at(Family((0, 0), (0, 1), 1), FAR), FAR + 1)
        self.assertEqual(size_at(Family((0, 0), (0, 1), -1), FAR), 0)
        self.assertEqual(size_at(Family((0, 1), (0, 0), -7), FAR), FAR // 7 + 1)
        self.assertEqual(size_at(Family((0, -END), (0, END), 12), FAR), 2 * END * FAR // 12 + 1)
        self.assertEqual(size_at(Family((5, END), (5, END), -12), FAR), 1)
        self.assertEqual(size_at(Family((5, END), (4, END), 12), FAR), 0)

    def test_n_goes_just_so_far(self):
        family = Family((0, 0), (0, 1), 1)
        for function in (triplet_at, size_at):
            for n in [0, FAR]:
                self.assertIsNone(raised(function, family, n))
            for n in [-1, FAR + 1, True, False, 1.0, None, "0", [0]]:
                self.assertEqual(raised(function, family, n), (InvalidArgument, "n"))
                self.assertEqual(raised(function, None, n), (InvalidArgument, "family"))


SETS = [
    (alike_sizes, lambda one, other: len(one) == len(other)),
    (same_sequence, lambda one, other: one == other),
    (same_elements, lambda one, other: set(one) == set(other)),
    (shares, lambda one, other: bool(set(one) & set(other))),
    (inside, lambda one, other: set(one) <= set(other)),
]


class Sets(unittest.TestCase):

    def test_by_words(self):
        up, turned = Family((1, 0), (0, 1), 1), Family((0, 1), (1, 0), -1)
        for function, one, other, told in [
            (alike_sizes, up, turned, ALWAYS),
            (same_elements, up, turned, ALWAYS),
            (same_sequence, up, turned, NSet([(0, 1, 1)])),
            (alike_sizes, up, Family((1, 0), (0, 2), 2), ALWAYS),
            (alike_sizes, up, Family((0, 0), (0, 1), 2), NSet([(1, 1, 2)])),
            (alike_sizes, Family((1, 0), (0, 1), 3), Family((0, 1), (2, 0), -3), NSet([(0, 1, 0), (2, 3, None), (3, 3, None)])),
            (alike_sizes, up, Family((1, 0), (9, 0), 1), only(9)),
            (alike_sizes, up, Family((5, 0), (4, 0), 1), only(0)),
            (alike_sizes, Family((0, 1), (0, 0), 1), Family((0, 0), (0, 0), 1), only(0)),
            (alike_sizes, Family((0, 1), (0, 0), 1), Family((0, 0), (-1, 0), 1), complement(only(0))),
            (same_elements, Family((0, 0), (0, 1), 2), Family((0, 0), (0, 1), 3), NSet([(0, 1, 1)])),
            (same_elements, Family((0, 0), (0, 1), 2), Family((0, 0), (1, 1), 2), NSet([(0, 2, None)])),
            (same_sequence, Family((7, 0), (6, 1), 5), Family((7, 0), (6, 1), 4), NSet([(0, 1, 4)])),
            (same_sequence, Family((7, 0), (6, 1), 5), Family((7, 0), (6, 1), -5), NSet([(1, 1, 1)])),
            (same_elements, Family((0, 0), (0, 1), -1), Family((0, 1), (0, 0), 1), ALWAYS),
            (same_elements, Family((0, 0), (1, 1), -1), Family((0, 1), (1, 0), 2), NSet([(2, 1, None)])),
            # Alike as long as they have one element.
            (same_elements, Family((0, 0), (0, 2), 4), Family((0, 0), (0, 1), 2), NSet([(0, 1, 1)])),
            (same_sequence, Family((0, 0), (0, 2), 4), Family((0, 0), (0, 1), 2), NSet([(0, 1, 1)])),
            (same_sequence, Family((7, 0), (6, 1), 5), Family((7, 0), (8, -1), -5), NSet([(0, 1, 5)])),
            (same_elements, Family((7, 0), (6, 1), 5), Family((7, 0), (8, -1), -5), NSet([(0, 1, 5)])),
            (inside, Family((0, 0), (0, 1), 1), Family((0, 0), (12, 2), 12), only(0)),
            (inside, Family((0, 0), (0, 1), 4), Family((0, 0), (0, 1), 2), ALWAYS),
            (inside, Family((0, 0), (0, 1), 2), Family((0, 0), (0, 1), 4), NSet([(0, 1, 1)])),
            (inside, Family((0, 0), (0, 1), 5), Family((10, 0), (0, 0), -5), NSet([(0, 1, 14)])),
            (shares, Family((0, 0), (0, 1), 4), Family((1, 0), (0, 1), 4), NEVER),
            (shares, Family((0, 0), (0, 1), 4), Family((3, 0), (0, 1), 5), NSet([(8, 1, None)])),
            (shares, Family((0, 1), (0, 1), 1), Family((0, 0), (20, 0), 7), NSet([(0, 7, 14)])),
        ]:
            self.assertEqual(function(one, other), told, (function, vars(one), vars(other)))

    def check(self, told, some, is_so):
        """A set against what is so at some n, and what it tells of itself against what it has."""
        self.assertIs(type(told), NSet)
        for n in some:
            self.assertIs(told.has(n), is_so(n), n)

    def test_against_all_elements(self):
        rng = chosen.generator(201)
        for _ in range(250):
            one, other = copied.pair(rng)
            some = list(range(45)) + [rng.randint(45, 150) for _ in range(3)]
            rows = {n: (copied.row(one, n), copied.row(other, n)) for n in some}
            for function, is_so in SETS:
                with self.subTest(function=function.__name__, one=vars(one), other=vars(other)):
                    self.check(function(one, other), some, lambda n: is_so(*rows[n]))

    def test_against_all_elements_at_far_n(self):
        rng = chosen.generator(202)
        for _ in range(250):
            one, other, n = copied.far_pair(rng)
            some = [0, 1, 2, 3] + [n + more for more in range(-30, 31)] + [rng.randint(0, 10 ** 9) for _ in range(5)]
            rows = {n: (copied.row(one, n), copied.row(other, n)) for n in some}
            for function, is_so in SETS:
                with self.subTest(function=function.__name__, one=vars(one), other=vars(other)):
                    self.check(function(one, other), some, lambda n: is_so(*rows[n]))

    def test_sets_tell_what_they_have(self):
        rng = chosen.generator(203)
        for _ in range(80):
            one, other = copied.family(rng), copied.family(rng)
            for function, _ in SETS:
                told = function(one, other)
                bound, period, residues = told.tail()
                end = bound + 2 * period + 20
                some = [n for n in range(end) if told.has(n)]
                self.assertEqual(told.least(), some[0] if some else None)
                self.assertEqual(told.how_many(end), len(some))
                self.assertEqual([n for n in range(bound, bound + period) if told.has(n)], sorted([
                    bound + (residue - bound) % period for residue in residues
                ]))
                self.assertEqual(math.lcm(one.step, other.step) % period, 0)
                self.assertEqual(meet(told, complement(told)), NEVER)
                self.assertEqual(union(told, complement(told)), ALWAYS)
                self.assertEqual(complement(complement(told)), told)

    def test_some_n_far_on_only(self):
        self.assertEqual(inside(Family((END, 0), (END, 0), 1), Family((0, 0), (0, 1), 1)).tail(), (END, 1, [0]))
        self.assertEqual(inside(Family((END, 0), (END, 0), 1), Family((0, 0), (0, 1), 12)).tail(), (0, 1, []))
        self.assertEqual(shares(Family((END - 8, 0), (END - 8, 0), 1), Family((-END, 0), (-END, 1), 12)).tail(), (2 * END - 8, 1, [0]))
        # Sizes that become alike once only, far on, by steps that are hardly unlike.
        one, other = Family((0, 0), (-END, 11), 11), Family((0, 0), (END, 12), 12)
        told = alike_sizes(Family((0, 0), (0, 11), 11), Family((0, 0), (0, 12), 12))
        self.assertEqual(told, ALWAYS)
        told = alike_sizes(Family((0, 0), (0, 2), 2), Family((0, 0), (-END, 3), 2))
        self.assertEqual([told.least(), told.how_many(FAR), told.has(END)], [END, 2, True])
        told = alike_sizes(one, other)
        self.assertEqual(told.how_many(FAR), 0)
        told = alike_sizes(Family((0, 0), (-END, 12), 11), Family((0, 0), (END, 12), 12))
        bound = told.tail()[0]
        self.assertEqual([told.tail()[1:], told.has(bound - 1)], [(1, []), True])
        for n in [bound - 1, told.least()]:
            self.assertEqual((12 * n - END) // 11, (12 * n + END) // 12)
        for n in [bound, bound + 1, told.least() - 1, told.least() - 2]:
            self.assertNotEqual((12 * n - END) // 11, (12 * n + END) // 12)

    def test_residues_only(self):
        self.assertEqual(shares(Family((0, 1), (0, 1), 1), Family((0, 0), (0, 9), 12)).tail(), (0, 12, [0]))
        self.assertEqual(inside(Family((0, 5), (0, 5), 1), Family((0, -1), (3, 9), 12)).tail(), (0, 2, [0]))
        self.assertEqual(same_sequence(Family((0, 0), (0, 1), 5), Family((0, 0), (4, 1), 5)).tail(), (0, 5, [0]))
        self.assertEqual(same_sequence(Family((0, 0), (0, 1), 11), Family((0, 0), (10, 1), 11)).tail(), (0, 11, [0]))
        self.assertEqual(shares(Family((0, 0), (0, 0), 11), Family((0, 7), (0, -7), -12)).tail(), (0, 12, [0]))

    def test_with_common_divisors_and_none(self):
        for step in copied.STEPS:
            for other in copied.STEPS:
                one, two = Family((3, 1), (3, 9), abs(step)), Family((2, 8), (4, -1), -abs(other))
                told = shares(one, two)
                for n in list(range(15)) + [100, 131, 132, 133]:
                    self.assertIs(told.has(n), bool(set(copied.row(one, n)) & set(copied.row(two, n))), (step, other, n))


class Within(unittest.TestCase):

    def test_against_all_elements(self):
        rng = chosen.generator(204)
        for _ in range(500):
            family = copied.family(rng, 20)
            low, high = [(rng.randint(-30, 30), rng.randint(-3, 3)) for _ in range(2)]
            told = within(family, low, high)
            for n in list(range(60)) + [rng.randint(60, 300) for _ in range(3)]:
                row = copied.row(family, n)
                is_so = all(low[0] + low[1] * n <= element <= high[0] + high[1] * n for element in row)
                self.assertIs(told.has(n), is_so, (vars(family), low, high, n))

    def test_forms_that_grow_and_fall(self):
        up = Family((0, 0), (0, 1), 3)
        self.assertEqual(within(up, (0, 0), (10, 0)), NSet([(0, 1, 11)]))
        self.assertEqual(within(up, (0, 0), (0, 1)), ALWAYS)
        self.assertEqual(within(up, (0, 0), (-1, 1)), NSet([(1, 3, None), (2, 3, None)]))
        self.assertEqual(within(up, (0, -1), (END, -1)), NSet([(0, 1, 500000)]))
        self.assertEqual(within(up, (1, 0), (10, 5)), NEVER)
        self.assertEqual(within(up, (END, -END), (END, END)), complement(only(0)))
        self.assertEqual(within(Family((5, -1), (5, 1), 2), (0, 0), (10, 0)), NSet([(0, 1, 5)]))
        self.assertEqual(within(Family((0, 1), (0, 0), -2), (0, 0), (0, 1)), ALWAYS)
        self.assertEqual(within(Family((0, 1), (0, 0), -2), (1, 0), (0, 1)), NSet([(1, 2, None)]))

    def test_where_there_are_no_elements(self):
        for low, high in [((1, 0), (0, 0)), ((5, 5), (-5, -5)), ((0, 0), (0, 0)), ((END, END), (-END, -END))]:
            self.assertEqual(within(Family((1, 0), (0, 0), 1), low, high), ALWAYS)
            self.assertEqual(within(Family((0, 1), (9, 0), 1), low, high).tail(), (10, 1, [0]))
        self.assertEqual(within(Family((0, 1), (9, 0), 1), (8, 0), (0, 0)), NSet([(10, 1, None)]))

    def test_at_far_n(self):
        family = Family((-END, 1), (END, -1), 7)
        told = within(family, (-3, 0), (20, 0))
        for n in range(END - 40, END + 10):
            row = copied.row(family, n)
            self.assertIs(told.has(n), all(-3 <= element <= 20 for element in row), n)
        self.assertIs(told.has(FAR), True)
        self.assertIs(told.has(1000), False)

    def test_forms_go_just_so_far(self):
        family = Family((0, 0), (0, 1), 3)
        for form in [(END, END), (-END, -END), (0, 0)]:
            self.assertIsNone(raised(within, family, form, form))
        for form in [(END + 1, 0), (0, -END - 1), (0, True), (False, 0), [0, 0], (0,), (0, 0, 0), 0, None]:
            self.assertEqual(raised(within, family, form, form), (InvalidArgument, "low"))
            self.assertEqual(raised(within, family, (0, 0), form), (InvalidArgument, "high"))
            self.assertEqual(raised(within, None, form, form), (InvalidArgument, "family"))


class Limits(unittest.TestCase):

    def sets_with_steps(self, step, other):
        one, two = Family((0, 0), (0, 1), step), Family((0, 1), (0, 3), other)
        yield from [function(one, two) for function in (alike_sizes, same_sequence, same_elements, shares, inside, needs_copy)]
        yield from [clashes(one, two, "forward"), clashes(one, two, "backward")]

    def test_by_the_steps_of_all_families_and_rows(self):
        for steps in [(1, 1), (11, 12), (-11, 12), (11, -9), (-7, -8), (5, 5)]:
            for told in self.sets_with_steps(*steps):
                for rows in [[1], [97], [97, 2], [97, 5], [99, 100], [97, 3], [35], [36, 7]]:
                    other = NSet([(0, step, None) for step in rows])
                    error = LIMIT if math.lcm(*steps, *rows) > 27720 else None
                    for function in (union, meet, NSet.__eq__):
                        self.assertEqual(raised(function, told, other), error, (steps, rows))
                        self.assertEqual(raised(function, other, told), error, (steps, rows))

    def test_by_the_step_of_one_family(self):
        for step in (12, -11, 1):
            told = within(Family((0, 0), (0, 1), step), (0, 0), (9, 9))
            for rows in [[97, 25], [97, 23], [100, 99], [36, 77], [89, 97]]:
                error = LIMIT if math.lcm(step, *rows) > 27720 else None
                self.assertEqual(raised(union, told, NSet([(0, one, 5) for one in rows])), error)
                self.assertEqual(raised(union, complement(told), NSet([(0, one, 5) for one in rows])), error)

    def test_sets_that_come_from_sets(self):
        told = union(alike_sizes(Family((0, 0), (0, 1), 11), Family((0, 0), (0, 1), 9)), NSet([(0, 7, 3)]))
        told = meet(told, shares(Family((0, 0), (0, 1), 8), Family((0, 0), (0, 1), 5)))
        self.assertIsNone(raised(union, told, NSet([(0, 12, None)])))
        self.assertEqual(raised(union, told, NSet([(0, 13, None)])), LIMIT)
        self.assertEqual(raised(union, told, NSet([(5, 16, 5)])), LIMIT)
        self.assertEqual(raised(NSet.__eq__, told, NSet([(5, 16, 5)])), LIMIT)

    def test_never_where_all_steps_are_at_most_12(self):
        told = NSet([(0, 1, 40)])
        for step in range(1, 13):
            one, other = Family((0, 0), (step, 1), step), Family((step, 1), (3, 0), step - 13)
            for function in (alike_sizes, same_elements, shares, inside, needs_copy):
                told = union(told, function(one, other))
                told = meet(told, complement(function(other, one)))
        self.assertTrue(told == union(told, told))
        self.assertIs(type(told.tail()), tuple)

    def test_of_four_families(self):
        swaps = [Family((0, 0), (0, 1), step) for step in (5, -7, 9, 8)]
        told = may_swap(("a", swaps[0], "b", swaps[1]), ("a", swaps[2], "b", swaps[3]))
        self.assertIsNone(raised(union, told, NSet([(0, 11, None)])))
        self.assertEqual(raised(union, told, NSet([(0, 13, None)])), LIMIT)

    def test_defined_where_the_interface_lists_them(self):
        for name in "Family triplet_at size_at alike_sizes within same_sequence same_elements".split():
            self.assertEqual(getattr(families, name).__module__, "sectionwise.families")
        for name in "__init__ __eq__".split():
            self.assertIn(name, vars(Family))


if __name__ == "__main__":
    unittest.main()
