"""Promises 10, 11 and 12, the first two sentences of 4, and the examples of 16."""

import unittest

import chosen
import plain
from sectionwise.errors import InvalidArgument, InvalidSection, LimitExceeded
from sectionwise.sections import (
    composed, count, element_at, element_of, extents, is_contiguous, is_once, listed, place_of, shape, stretches,
)
from wrong import raised

FAR = 10 ** 30
END = 5 * 10 ** 29


class Examples(unittest.TestCase):

    def test_of_promise_16(self):
        bounds, section = ((1, 4), (0, 2)), ((1, 4, 1), (0, 2, 2))
        self.assertEqual(shape(bounds, section), (4, 2))
        self.assertEqual(listed(bounds, section), [0, 1, 2, 3, 8, 9, 10, 11])
        self.assertEqual(stretches(bounds, section), 2)
        self.assertEqual(composed(bounds, section, ((4, 1, -3), 2)), ((4, 1, -3), 2))

    def test_of_promise_16_three_stretches(self):
        bounds, section = ((1, 2), (1, 3), (1, 2)), ((1, 2, 1), (1, 3, 2), (1, 2, 1))
        self.assertEqual(stretches(bounds, section), 3)
        self.assertEqual(listed(bounds, section), [0, 1, 4, 5, 6, 7, 10, 11])
        self.assertIs(is_contiguous(bounds, section), False)


class Arrays(unittest.TestCase):

    def test_extents(self):
        self.assertEqual(extents(((1, 4), (0, 2), (-3, -3))), (4, 3, 1))
        self.assertEqual(extents(((1, 0),)), (0,))
        self.assertEqual(extents(((END, -END), (1, -1), (-END, END))), (0, 0, FAR + 1))
        self.assertEqual(extents(((-END, -END), (END, END))), (1, 1))
        for many in range(1, 8):
            self.assertEqual(extents(((2, 4),) * many), (3,) * many)
        self.assertEqual(raised(extents, ((2, 4),) * 8), (InvalidSection, "bounds"))
        self.assertEqual(raised(extents, ()), (InvalidSection, "bounds"))

    def test_bounds_go_just_so_far(self):
        for wrong in [((-END - 1, 0),), ((0, END + 1),), ((END + 1, 0),), ((0, -END - 1),), ((1, 2), (END + 1, 1))]:
            self.assertEqual(raised(extents, wrong), (InvalidSection, "bounds"), wrong)

    def test_places_and_elements_lead_to_one_another(self):
        rng = chosen.generator(10)
        for _ in range(150):
            bounds = chosen.bounds(rng)
            for place, element in enumerate(plain.array(bounds)):
                self.assertEqual(place_of(bounds, element), place)
                self.assertEqual(element_at(bounds, place), element)

    def test_far_places(self):
        bounds = ((-END, END), (3, 5), (-END, END), (-END, 0), (END, END), (0, 1), (-END, END))
        element = (END, 4, -END, 0, END, 1, 7)
        wide = FAR + 1
        place = FAR + wide + 3 * wide * wide * END + 3 * wide * wide * (END + 1) * (1 + 2 * (END + 7))
        self.assertEqual(place_of(bounds, element), place)
        self.assertEqual(element_at(bounds, place), element)
        last = 6 * wide ** 3 * (END + 1) - 1
        self.assertEqual(element_at(bounds, last), (END, 5, END, 0, END, 1, END))
        self.assertEqual(place_of(bounds, (END, 5, END, 0, END, 1, END)), last)
        self.assertEqual(place_of(bounds, (-END, 3, -END, -END, END, 0, -END)), 0)
        self.assertEqual(raised(element_at, bounds, last + 1), (InvalidArgument, "place"))

    def test_subscripts_just_beyond_the_bounds(self):
        bounds = ((1, 4), (-2, 0), (5, 5))
        self.assertEqual(place_of(bounds, (4, 0, 5)), 11)
        for wrong in [(0, 0, 5), (5, 0, 5), (4, -3, 5), (4, 1, 5), (4, 0, 4), (4, 0, 6), (4, 0), (4, 0, 5, 1), ()]:
            self.assertEqual(raised(place_of, bounds, wrong), (InvalidSection, "element"), wrong)
        self.assertEqual(raised(place_of, ((-END, END),), (END + 1,)), (InvalidSection, "element"))
        self.assertEqual(raised(place_of, ((-END, END),), (-END - 1,)), (InvalidSection, "element"))

    def test_places_that_are_none(self):
        rng = chosen.generator(11)
        for _ in range(60):
            bounds = chosen.bounds(rng, least=0)
            many = len(plain.array(bounds))
            for wrong in [-1, many, many + 1, -many - 1]:
                self.assertEqual(raised(element_at, bounds, wrong), (InvalidArgument, "place"), (bounds, wrong))

    def test_arrays_without_elements(self):
        for bounds in [((1, 0),), ((1, 3), (END, -END)), ((4, 2), (1, 3)), ((1, 0), (1, 0))]:
            self.assertEqual(raised(element_at, bounds, 0), (InvalidArgument, "place"))
            self.assertEqual(raised(place_of, bounds, (1,) * len(bounds)), (InvalidSection, "element"))
            self.assertEqual(raised(place_of, bounds, tuple(low for low, _ in bounds)), (InvalidSection, "element"))
            self.assertEqual(raised(place_of, bounds, tuple(high for _, high in bounds)), (InvalidSection, "element"))


class Sections(unittest.TestCase):

    def test_against_a_plain_count(self):
        rng = chosen.generator(12)
        for _ in range(600):
            bounds = chosen.bounds(rng, size=200, least=rng.choice([0, 1, 1]))
            section = chosen.section(rng, bounds)
            all_there = plain.elements(section)
            kept = tuple(len(plain.numbers(part)) for part in section if type(part) is not int)
            self.assertEqual(shape(bounds, section), kept)
            self.assertEqual(count(bounds, section), len(all_there))
            self.assertIs(is_once(bounds, section), len(set(all_there)) == len(all_there))
            if all_there:
                self.assertEqual(listed(bounds, section), plain.places(bounds, section))
            else:
                self.assertEqual(listed(bounds, section), [])
            for index, element in enumerate(all_there):
                self.assertEqual(element_of(bounds, section, index), element)
            for wrong in [-1, len(all_there), len(all_there) + 1]:
                self.assertEqual(raised(element_of, bounds, section, wrong), (InvalidArgument, "index"))

    def test_which_are_sections(self):
        rng = chosen.generator(13)
        seen = {True: 0, False: 0}
        for _ in range(2500):
            bounds = chosen.bounds(rng, 3, 200, least=rng.choice([0, 1, 1]))
            wide = tuple((min(low, high) - 2, max(low, high) + 2) for low, high in bounds)
            section = chosen.section(rng, wide)
            right = plain.is_section(bounds, section)
            seen[right] += 1
            expected = None if right else (InvalidSection, "section")
            self.assertEqual(raised(count, bounds, section), expected, (bounds, section))
        self.assertGreater(min(seen.values()), 250)

    def test_triplets(self):
        bounds = ((1, 10),)
        for triplet, told in [
            ((1, 10, 1), [1, 2, 3, 4, 5, 6, 7, 8, 9, 10]), ((9, 2, -3), [9, 6, 3]), ((1, 10, 4), [1, 5, 9]),
            ((3, 3, 1), [3]), ((3, 3, -5), [3]), ((3, 4, FAR), [3]), ((3, 2, 1), []), ((3, 4, -1), []),
            ((1, 3, -1), []), ((10, 1, -9), [10, 1]), ((10, 2, -9), [10]), ((3, -FAR, FAR), []), ((7, 12, 6), [7]), ((7, 12, 4), None),
            ((7, 14, 3), None), ((0, 4, 1), None), ((0, 4, 5), None), ((11, 12, -1), []), ((3, FAR, FAR), [3]),
            ((8, FAR, FAR - 8), None), ((3, -3, -3), None), ((3, 1, -3), [3]), ((1, 12, 10), None), ((1, 10, 10), [1]),
        ]:
            if told is None:
                self.assertEqual(raised(count, bounds, (triplet,)), (InvalidSection, "section"), triplet)
                continue
            self.assertEqual([number - 1 for number in told], listed(bounds, (triplet,)), triplet)
            self.assertEqual(shape(bounds, (triplet,)), (len(told),))

    def test_triplets_are_of_far_numbers(self):
        bounds = ((1, 10), (1, 4))
        for right in [(FAR, -FAR, FAR), (-FAR, FAR, -FAR), (1, 0, FAR), (1, 2, -FAR)]:
            self.assertEqual(count(bounds, (right, 1)), 0)
        for wrong in [(FAR + 1, 0, 1), (0, -FAR - 1, 1), (1, 0, FAR + 1), (1, 2, -FAR - 1), (-FAR - 1, 0, -1), (1, 0, 0)]:
            self.assertEqual(raised(count, bounds, (wrong, 1)), (InvalidSection, "section"), wrong)

    def test_with_a_part_without_subscripts_the_others_are_any(self):
        bounds = ((1, 4), (1, 4), (1, 0), (1, 4))
        parts = [FAR, -FAR, (-FAR, FAR, 1), (FAR, -FAR, -FAR), [FAR, -FAR, 0], [99, 99], 77, [], (5, 9, 1)]
        for empty in [[], (1, 0, 1), (1, 2, -1), (FAR, -FAR, FAR)]:
            for part in parts:
                for section in [(part, part, empty, part), (empty, part, part, part), (part, 1, 1, empty)]:
                    self.assertEqual(count(bounds, section), 0)
                    self.assertIs(is_once(bounds, section), True)
                    self.assertEqual(listed(bounds, section), [])
                    self.assertEqual(raised(element_of, bounds, section, 0), (InvalidArgument, "index"))
        self.assertEqual(shape(bounds, ((-FAR, FAR, 1), [7, 7], (1, 0, 1), 99)), (2 * FAR + 1, 2, 0))
        self.assertEqual(shape(bounds, ([], 9, 9, 9)), (0,))
        for part in [FAR + 1, -FAR - 1, [FAR + 1], [-FAR - 1], (1, FAR + 1, 1)]:
            self.assertEqual(raised(count, bounds, ([], part, 1, 1)), (InvalidSection, "section"), part)
        self.assertEqual(raised(count, bounds, (1, 1, 1, 1)), (InvalidSection, "section"))
        self.assertEqual(raised(count, bounds, ([99], [99], 1, 1)), (InvalidSection, "section"))

    def test_each_subscript_lies_within_the_bounds(self):
        bounds = ((1, 4), (-END, END))
        for wrong in [0, 5, [1, 5], [0, 1, 1], [5], (1, 5, 1), (0, 4, 4), (5, 1, -4), (4, 0, -2), (5, 5, 1)]:
            self.assertEqual(raised(count, bounds, (wrong, 0)), (InvalidSection, "section"), wrong)
        for wrong in [END + 1, -END - 1, [END + 1], (-END, END + 1, 1), (END, -END - 1, -1), (-FAR, 0, 1)]:
            self.assertEqual(raised(count, bounds, (1, wrong)), (InvalidSection, "section"), wrong)
        self.assertEqual(count(bounds, ((1, 4, 1), (-END, END, 1))), 4 * (FAR + 1))
        self.assertEqual(count(bounds, ((4, 1, -1), (END, -END - 1, -2))), 4 * (END + 1))

    def test_lists(self):
        bounds = ((1, 9), (1, 2))
        self.assertEqual(count(bounds, ([1] * 64, 2)), 64)
        self.assertEqual(raised(count, bounds, ([1] * 65, 2)), (InvalidSection, "section"))
        self.assertEqual(raised(count, bounds, ([1] * 65, [])), (InvalidSection, "section"))
        self.assertEqual(listed(bounds, ([9, 1, 9], [2, 1])), [17, 9, 17, 8, 0, 8])
        self.assertIs(is_once(bounds, ([9, 1, 9], 1)), False)
        self.assertIs(is_once(bounds, ([9, 1, 8], (1, 2, 1))), True)
        self.assertIs(is_once(bounds, ([9, 1, 8], [2, 2])), False)
        self.assertIs(is_once(bounds, ([9, 9], (2, 1, 1))), True)
        self.assertEqual(shape(bounds, ([9, 1, 9], [2])), (3, 1))

    def test_integers_are_not_kept(self):
        bounds = ((1, 4), (1, 4), (1, 4))
        self.assertEqual(shape(bounds, (1, 2, 3)), ())
        self.assertEqual(count(bounds, (1, 2, 3)), 1)
        self.assertEqual(shape(bounds, (1, [2], (3, 3, 1))), (1, 1))
        self.assertEqual(shape(bounds, ((1, 3, 1), 2, [1, 2])), (3, 2))
        self.assertEqual(element_of(bounds, ((1, 3, 1), 2, [1, 4]), 4), (2, 2, 4))
        self.assertEqual(element_of(bounds, (1, 2, 3), 0), (1, 2, 3))

    def test_a_section_has_as_many_parts_as_dimensions(self):
        for many in range(1, 8):
            bounds = ((1, 2),) * many
            self.assertEqual(count(bounds, ((1, 2, 1),) * many), 2 ** many)
            self.assertEqual(raised(count, bounds, (1,) * (many - 1)), (InvalidSection, "section"))
            self.assertEqual(raised(count, bounds, (1,) * (many + 1)), (InvalidSection, "section"))
            self.assertEqual(raised(count, bounds, ([],) * (many + 1)), (InvalidSection, "section"))

    def test_elements_of_far_sections(self):
        bounds = ((-END, END), (1, 5), (-END, END), (-END, END))
        section = ((-END, END, 2), [5, 1, 5], 7, (END, -END, -10 ** 15))
        many = END + 1
        self.assertEqual(shape(bounds, section), (many, 3, 10 ** 15 + 1))
        self.assertEqual(count(bounds, section), many * 3 * (10 ** 15 + 1))
        self.assertIs(is_once(bounds, section), False)
        self.assertEqual(element_of(bounds, section, 0), (-END, 5, 7, END))
        self.assertEqual(element_of(bounds, section, many), (-END, 1, 7, END))
        self.assertEqual(element_of(bounds, section, 2 * many - 1), (END, 1, 7, END))
        index = 17 + many * (2 + 3 * 10 ** 14)
        self.assertEqual(element_of(bounds, section, index), (-END + 34, 5, 7, END - 10 ** 29))
        last = many * 3 * (10 ** 15 + 1) - 1
        self.assertEqual(element_of(bounds, section, last), (END, 5, 7, -END))
        self.assertEqual(raised(element_of, bounds, section, last + 1), (InvalidArgument, "index"))
        self.assertEqual(raised(element_of, bounds, section, -1), (InvalidArgument, "index"))
        seven = ((-END, END, 1),) * 7
        self.assertEqual(element_of(((-END, END),) * 7, seven, (FAR + 1) ** 7 - 2), (END - 1,) + (END,) * 6)

    def test_listed_goes_as_far_as_5000(self):
        bounds = ((1, 10 ** 6), (1, 50), (1, 100))
        self.assertEqual(listed(bounds, ((3, 5002, 1), 1, 1)), list(range(2, 5002)))
        rows = listed(bounds, (7, (50, 1, -1), (1, 100, 1)))
        self.assertEqual(len(rows), 5000)
        self.assertEqual(rows[:2] + rows[-1:], [6 + 49 * 10 ** 6, 6 + 48 * 10 ** 6, 6 + 99 * 50 * 10 ** 6])
        for section in [((3, 5003, 1), 1, 1), ([1, 1], (1, 50, 1), (1, 51, 1)), ((1, 10 ** 6, 1),) + ((1, 50, 1),) * 2]:
            with self.assertRaises(LimitExceeded) as caught:
                listed(bounds, section)
            self.assertEqual(caught.exception.limit, 5000)
        self.assertEqual(listed(bounds, ((-FAR, FAR, 1), (1, 0, 1), 1)), [])


if __name__ == "__main__":
    unittest.main()
