"""Promise 13, and the fact of promise 16 on composed sections."""

import unittest

import chosen
import plain
from sectionwise.errors import InvalidSection
from sectionwise.sections import composed, count, is_contiguous, listed, shape
from wrong import raised

FAR = 10 ** 30
END = 5 * 10 ** 29


def is_refused(bounds, section, inner):
    return raised(composed, bounds, section, inner) == (InvalidSection, "inner")


class Composed(unittest.TestCase):

    def test_each_kind_of_part_by_each_kind(self):
        bounds = ((1, 20),)
        up, down, row = (3, 19, 4), (19, 4, -3), [9, 1, 1, 20]
        cases = [
            (up, 2, 7), (up, (1, 5, 1), (3, 19, 4)), (up, (5, 1, -2), (19, 3, -8)), (up, (2, 4, 3), (7, 7, 1)),
            (up, (2, 9, 8), (7, 7, 1)), (up, (1, 4, 2), (3, 11, 8)), (up, [5, 1, 1], [19, 3, 3]), (up, [2], [7]),
            (down, 6, 4), (down, (1, 6, 1), (19, 4, -3)), (down, (6, 2, -2), (4, 16, 6)), (down, (1, 6, 2), (19, 7, -6)),
            (down, (3, 3, -7), (13, 13, 1)), (down, [6, 6], [4, 4]), (down, (1, 1, 1), (19, 19, 1)),
            (row, 4, 20), (row, 1, 9), (row, (4, 1, -1), [20, 1, 1, 9]), (row, (1, 4, 2), [9, 1]), (row, [4, 4], [20, 20]),
            (row, (2, 2, 1), [1]), (row, [3], [1]),
        ]
        for part, inner, told in cases:
            made = composed(bounds, (part,), (inner,))
            self.assertEqual(made, (told,), (part, inner))
            self.assertIs(type(made), tuple)
            self.assertIs(type(made[0]), type(told))

    def test_parts_that_are_not_kept_stay(self):
        bounds = ((1, 5), (1, 5), (1, 5), (1, 5))
        section = (2, (5, 1, -2), 4, [5, 3])
        self.assertEqual(composed(bounds, section, ((2, 3, 1), 2)), (2, (3, 1, -2), 4, 3))
        self.assertEqual(composed(bounds, section, ([3, 1], (2, 1, -1))), (2, [1, 5], 4, [3, 5]))
        self.assertEqual(composed(bounds, section, (3, 1)), (2, 1, 4, 5))
        self.assertEqual(composed(bounds, (2, 3, [4], 5), (1,)), (2, 3, 4, 5))

    def test_inner_is_counted_by_kept_parts(self):
        bounds = ((1, 5), (1, 5), (1, 5))
        for section, right, wrong in [
            ((2, (1, 5, 2), 4), [(1,), (3,), ([3],), ((3, 1, -2),)], [(0,), (4,), (1, 1), (), 1, [1], ([4],), ((1, 4, 1),)]),
            (([1, 1, 1, 1], 1, (5, 1, -1)), [(4, 5), ([], 9)], [(5, 5), (4, 6), (0, 1), (4,), (4, 1, 5), ((1, 5, 1), 1)]),
        ]:
            for inner in right:
                self.assertFalse(is_refused(bounds, section, inner), (section, inner))
                composed(bounds, section, inner)
            for inner in wrong:
                self.assertTrue(is_refused(bounds, section, inner), (section, inner))

    def test_no_part_is_kept(self):
        for inner in [(), (1,), (1, 1), ((1, 0, 1),), ([],)]:
            self.assertTrue(is_refused(((1, 4), (1, 4)), (1, 2), inner), inner)

    def test_inner_without_elements(self):
        bounds = ((1, 5), (1, 5), (1, 5))
        section = ((1, 5, 1), 3, [2, 4])
        for inner in [([], 99), ((1, 0, 1), [FAR, -FAR]), (-7, (8, 9, -1)), ((-FAR, FAR, 3), []), ([], [])]:
            self.assertEqual(composed(bounds, section, inner), (inner[0], 3, inner[1]))
        for inner in [([], FAR + 1), ((1, 0, 1), [True]), ([],), ([], 1, 1)]:
            self.assertTrue(is_refused(bounds, section, inner), inner)

    def test_section_without_elements(self):
        bounds = ((1, 5), (1, 5), (1, 5))
        section = ((1, 0, 1), 77, (-FAR, FAR, 1))
        for inner in [([], 5), ((3, 2, 1), [5, 6]), (9, [])]:
            self.assertEqual(composed(bounds, section, inner), (inner[0], 77, inner[1]))
        for inner in [(1, 1), ((1, 1, 1), 1), ([1], 5), (0, 1)]:
            self.assertTrue(is_refused(bounds, section, inner), inner)

    def test_told_lists_are_new(self):
        bounds = ((1, 5), (1, 5))
        row, inner_row, empty = [2, 4], [1, 2], []
        for section, inner in [
            ((row, 1), ((1, 2, 1),)), ((row, 1), (inner_row,)), (((2, 4, 2), 1), (inner_row,)), ((row, row), (empty, inner_row)),
            ((row, row), (inner_row, empty)),
        ]:
            first, second = composed(bounds, section, inner), composed(bounds, section, inner)
            self.assertEqual(first, second)
            for at, part in enumerate(first):
                if type(part) is list:
                    self.assertIsNot(part, second[at])
                    self.assertFalse(any(part is other for other in [row, inner_row, empty]))
                    part.append(3)
        self.assertEqual((row, inner_row, empty), ([2, 4], [1, 2], []))

    def test_its_elements_are_those_at_the_places_of_inner(self):
        rng = chosen.generator(16)
        for _ in range(800):
            bounds = chosen.bounds(rng, size=200, least=rng.choice([0, 1, 1, 1]))
            section = chosen.section(rng, bounds, 300)
            lengths = shape(bounds, section)
            if not lengths:
                continue
            inner_bounds = tuple((1, length) for length in lengths)
            inner = chosen.section(rng, inner_bounds, 300)
            made = composed(bounds, section, inner)
            if not plain.elements(inner):
                self.assertEqual(count(bounds, made), 0)
                continue
            self.assertEqual(plain.elements(made), plain.composed_elements(section, inner), (bounds, section, inner))
            there = listed(bounds, section)
            self.assertEqual([there[place] for place in listed(inner_bounds, inner)], listed(bounds, made))
            self.check_form(section, inner, made)

    def check_form(self, section, inner, made):
        kept = iter(inner)
        for part, told in zip(section, made):
            if type(part) is int:
                self.assertEqual(told, part)
                continue
            its = next(kept)
            if type(its) is int:
                self.assertIs(type(told), int)
            elif type(its) is list or type(part) is list:
                self.assertIs(type(told), list)
            else:
                many = len(plain.numbers(its))
                self.assertEqual(told[2], part[2] * its[2] if many > 1 else 1)
                self.assertEqual(told[1], plain.numbers(told)[-1])

    def test_far_sections(self):
        bounds = ((-END, END), (-END, END), (1, 3))
        section = ((END, -END, -1), (-END, END, 10 ** 15), 2)
        inner = ((1, FAR, FAR - 1), (10 ** 15 + 1, 1, -(10 ** 15)))
        made = ((END, -END + 1, -(FAR - 1)), (END, -END, -FAR), 2)
        self.assertEqual(composed(bounds, section, inner), made)
        self.assertTrue(is_refused(bounds, section, (1, 10 ** 15 + 2)))
        self.assertTrue(is_refused(bounds, section, (1, 0)))
        self.assertTrue(is_refused(bounds, section, (FAR + 1, 1)))
        self.assertEqual(composed(bounds, section, (FAR, [10 ** 15, 1])), (-END + 1, [END - 10 ** 15, -END], 2))

    def test_a_section_of_a_contiguous_one(self):
        rng = chosen.generator(17)
        seen = {True: 0, False: 0}
        for _ in range(400):
            bounds = chosen.bounds(rng, 4, 100, least=1)
            section = chosen.contiguous(rng, bounds)
            if not shape(bounds, section) or not plain.elements(section):
                continue
            lengths = tuple((1, length) for length in shape(bounds, section))
            inner = chosen.section(rng, lengths)
            told = is_contiguous(lengths, inner)
            seen[told] += 1
            self.assertIs(is_contiguous(bounds, composed(bounds, section, inner)), told)
        self.assertGreater(min(seen.values()), 40)


if __name__ == "__main__":
    unittest.main()
