"""Promises 4, 5 and 6, and the examples and facts of 9 on them."""

import itertools
import math
import unittest

import chosen
import plain
from sectionwise.errors import InvalidArgument, InvalidTriplet
from sectionwise.triplets import (
    first_gap, is_same_run, is_same_set, less, lies_in, met, normal, triplet_element, triplet_index, triplet_size, turned,
    union_element, union_size,
)
from wrong import raised

FAR = 10 ** 30
SMALL = [
    (first, last, step) for first in range(-3, 4) for last in range(-4, 6) for step in (-5, -3, -2, -1, 1, 2, 3, 4)
]


def any_triplet(rng, width=60, step=9):
    steps = [number for number in range(-step, step + 1) if number]
    return (rng.randint(-width, width), rng.randint(-width, width), rng.choice(steps))


class Examples(unittest.TestCase):

    def test_of_promise_9(self):
        self.assertEqual(
            [normal((9, 2, -3)), turned((9, 2, -3)), met((0, 10 ** 30, 6), (4, 100, 4)), less((0, 20, 2), (4, 16, 6))],
            [(3, 9, 3), (3, 9, 3), (12, 96, 12), [(0, 2, 2), (6, 12, 6), (8, 14, 6), (18, 20, 2)]],
        )
        some = [(0, 10 ** 30, 2), (1, 10 ** 30, 4), (3, 10 ** 30, 4)]
        self.assertEqual(
            [first_gap(some, 0) - 10 ** 30, union_size(some) - 10 ** 30, union_element([(0, 9, 2), (0, 9, 3)], 4)],
            [1, 1, 6],
        )


class Elements(unittest.TestCase):

    def test_sizes_and_elements(self):
        for triplet in SMALL:
            row = plain.numbers(triplet)
            self.assertEqual(triplet_size(triplet), len(row), triplet)
            for index, number in enumerate(row):
                self.assertEqual(triplet_element(triplet, index), number, triplet)
                self.assertEqual(triplet_index(triplet, number), index, triplet)
            for index in [-1, len(row), len(row) + 1, -len(row) - 1]:
                self.assertEqual(raised(triplet_element, triplet, index), (InvalidArgument, "index"), triplet)

    def test_numbers_that_are_no_element(self):
        for triplet in SMALL:
            row = plain.numbers(triplet)
            for number in range(-12, 14):
                if number not in row:
                    self.assertIsNone(triplet_index(triplet, number), (triplet, number))

    def test_sizes_are_told_as_written(self):
        for triplet in SMALL + [(FAR, -FAR, -FAR), (-FAR, FAR, 7), (1, FAR, FAR)]:
            first, last, step = triplet
            self.assertEqual(triplet_size(triplet), max(0, (last - first + step) // step))

    def test_far_ones(self):
        for triplet, size, last in [
            ((-FAR, FAR, 1), 2 * FAR + 1, FAR), ((FAR, -FAR, -1), 2 * FAR + 1, -FAR), ((-FAR, FAR, FAR), 3, FAR),
            ((FAR, -FAR, -FAR), 3, -FAR), ((0, FAR, 7), FAR // 7 + 1, FAR - FAR % 7), ((FAR, FAR, FAR), 1, FAR),
            ((-FAR, FAR - 1, FAR), 2, 0), ((-FAR, -FAR, -FAR), 1, -FAR), ((1, FAR, FAR), 1, 1), ((2, FAR, 3), FAR // 3, FAR - 2),
        ]:
            self.assertEqual(triplet_size(triplet), size, triplet)
            self.assertEqual(triplet_element(triplet, size - 1), last, triplet)
            self.assertEqual(triplet_element(triplet, 0), triplet[0])
            self.assertEqual(triplet_index(triplet, last), size - 1)
            self.assertEqual(triplet_index(triplet, triplet[0]), 0)
            self.assertEqual(raised(triplet_element, triplet, size), (InvalidArgument, "index"))
            self.assertEqual(raised(triplet_element, triplet, -1), (InvalidArgument, "index"))
            middle = triplet_element(triplet, size // 2)
            self.assertEqual(triplet_index(triplet, middle), size // 2)
        for triplet in [(FAR, -FAR, 1), (-FAR, FAR, -FAR), (FAR, -FAR, FAR), (1, 0, FAR)]:
            self.assertEqual(triplet_size(triplet), 0)
            self.assertEqual(raised(triplet_element, triplet, 0), (InvalidArgument, "index"))
            self.assertIsNone(triplet_index(triplet, triplet[0]))

    def test_numbers_that_are_asked_for_go_just_so_far(self):
        self.assertEqual(triplet_index((-FAR, FAR, 1), FAR), 2 * FAR)
        self.assertIsNone(triplet_index((0, 3, 1), -FAR))
        self.assertEqual(raised(triplet_index, (-FAR, FAR, 1), FAR + 1), (InvalidArgument, "number"))
        self.assertEqual(raised(triplet_index, (-FAR, FAR, 1), -FAR - 1), (InvalidArgument, "number"))

    def test_triplets_go_just_so_far(self):
        for triplet in [(0, 1, 0), (FAR + 1, 0, 1), (0, FAR + 1, 1), (0, 1, FAR + 1), (-FAR - 1, 0, 1), (0, 1, -FAR - 1)]:
            self.assertEqual(raised(triplet_size, triplet), (InvalidTriplet, "triplet"), triplet)


class Normal(unittest.TestCase):

    def test_normal_and_turned(self):
        for triplet in SMALL:
            row = plain.numbers(triplet)
            self.assertEqual(normal(triplet), plain.normal(row), triplet)
            self.assertEqual(plain.numbers(normal(triplet)), sorted(row))
            other = turned(triplet)
            self.assertEqual(plain.numbers(other), row[::-1], triplet)
            if len(row) > 1:
                self.assertEqual(other, (row[-1], row[0], -triplet[2]))
            else:
                self.assertEqual(other, normal(triplet))

    def test_by_words(self):
        for triplet, told, back in [
            ((5, 1, 1), (0, -1, 1), (0, -1, 1)), ((1, 5, -2), (0, -1, 1), (0, -1, 1)), ((4, 4, -7), (4, 4, 1), (4, 4, 1)),
            ((4, 6, 7), (4, 4, 1), (4, 4, 1)), ((4, -2, -7), (4, 4, 1), (4, 4, 1)), ((1, 6, 2), (1, 5, 2), (5, 1, -2)),
            ((6, 1, -2), (2, 6, 2), (2, 6, 2)), ((1, 4, 3), (1, 4, 3), (4, 1, -3)), ((4, 1, -3), (1, 4, 3), (1, 4, 3)),
            ((-FAR, FAR, FAR), (-FAR, FAR, FAR), (FAR, -FAR, -FAR)), ((FAR, 1, -FAR), (FAR, FAR, 1), (FAR, FAR, 1)),
            ((FAR, -FAR, -2), (-FAR, FAR, 2), (-FAR, FAR, 2)), ((0, FAR, 7), (0, FAR - FAR % 7, 7), (FAR - FAR % 7, 0, -7)),
        ]:
            self.assertEqual(normal(triplet), told, triplet)
            self.assertEqual(turned(triplet), back, triplet)
            self.assertEqual(normal(turned(triplet)), told)
            self.assertEqual(normal(told), told)

    def test_same_sets_and_runs(self):
        few = [triplet for at, triplet in enumerate(SMALL) if at % 5 == 0]
        for one, other in itertools.product(few, few):
            row, its = plain.numbers(one), plain.numbers(other)
            self.assertIs(is_same_run(one, other), row == its, (one, other))
            self.assertIs(is_same_set(one, other), sorted(row) == sorted(its), (one, other))

    def test_same_sets_have_the_same_normal_ones(self):
        rng = chosen.generator(51)
        for _ in range(500):
            one, other = any_triplet(rng, 9, 3), any_triplet(rng, 9, 3)
            self.assertEqual(is_same_set(one, other), normal(one) == normal(other))
            self.assertTrue(is_same_set(one, turned(one)))
            self.assertEqual(is_same_run(one, turned(one)), triplet_size(one) < 2)
            self.assertTrue(is_same_run(one, turned(turned(one))))

    def test_far_ones_are_the_same(self):
        long = (-FAR, FAR, 3)
        end = triplet_element(long, triplet_size(long) - 1)
        for other, is_set, is_run in [
            ((-FAR, FAR - 1, 3), True, True), ((-FAR, end, 3), True, True), ((end, -FAR, -3), True, False),
            ((-FAR, end - 1, 3), False, False), ((-FAR + 1, FAR, 3), False, False), ((-FAR, FAR, 2), False, False),
            ((end, -FAR + 1, -3), False, False), ((1, 0, 5), False, False), ((-FAR + 3, end, 3), False, False),
        ]:
            self.assertIs(is_same_set(long, other), is_set, other)
            self.assertIs(is_same_run(long, other), is_run, other)
            self.assertIs(is_same_run(other, long), is_run, other)
        self.assertTrue(is_same_run((FAR, FAR, 5), (FAR, FAR, -FAR)))
        self.assertTrue(is_same_run((FAR, 0, 5), (-FAR, FAR, -1)))
        self.assertFalse(is_same_run((FAR, 0, 5), (FAR, FAR, 1)))

    def test_runs_of_many_elements_that_begin_alike(self):
        for many in (2, 63, 64, 65, 66, 500):
            one = (1, many, 1)
            self.assertTrue(is_same_run(one, (1, many, 1)))
            self.assertFalse(is_same_run(one, (1, 2 * many - 1, 2)))
            self.assertFalse(is_same_run(one, (many, 1, -1)))
            self.assertFalse(is_same_run(one, (0, many - 1, 1)))
            self.assertFalse(is_same_run(one, (1, many + 1, 1)))
            self.assertTrue(is_same_set(one, (many, 1, -1)))


class Met(unittest.TestCase):

    def test_against_all_elements(self):
        rng = chosen.generator(61)
        for _ in range(4000):
            one, other = any_triplet(rng), any_triplet(rng)
            both = [number for number in plain.numbers(one) if number in plain.numbers(other)]
            told = met(one, other)
            self.assertEqual(told, plain.normal(both), (one, other))
            self.assertEqual(met(other, one), told)
            self.assertIs(lies_in(one, other), len(both) == len(plain.numbers(one)), (one, other))
            self.assertIs(lies_in(one, told), len(both) == len(plain.numbers(one)))
            self.assertIs(lies_in(told, one), True)

    def test_parts_of_a_triplet_lie_in_it(self):
        rng = chosen.generator(62)
        for _ in range(1000):
            other = any_triplet(rng, 300, 5)
            size = triplet_size(other)
            if size < 2:
                continue
            first, last = rng.randrange(size), rng.randrange(size)
            times = rng.choice([1, 1, 2, 3])
            step = other[2] * times if first <= last else -other[2] * times
            one = (triplet_element(other, first), triplet_element(other, last), step)
            self.assertTrue(lies_in(one, other))
            self.assertEqual(lies_in(other, one), abs(last - first) == size - 1 and times == 1)
            self.assertEqual(lies_in((one[0] + 1,) + one[1:], other), abs(other[2]) == 1 and first < last or
                             set(plain.numbers((one[0] + 1,) + one[1:])) <= set(plain.numbers(other)))

    def test_without_elements(self):
        for empty in [(0, -1, 1), (5, 4, 1), (4, 5, -3), (FAR, -FAR, FAR), (-FAR, FAR, -1)]:
            for other in [(0, 9, 1), (9, 0, -2), (4, 4, 1), (5, 4, 1), (-FAR, FAR, 1), (FAR, -FAR, -FAR)]:
                self.assertEqual(met(empty, other), (0, -1, 1))
                self.assertEqual(met(other, empty), (0, -1, 1))
                self.assertIs(lies_in(empty, other), True)
                self.assertIs(lies_in(other, empty), triplet_size(other) == 0)

    def test_steps_with_and_without_a_common_divisor(self):
        for one, other, told in [
            ((0, 100, 6), (3, 100, 4), (0, -1, 1)), ((0, 100, 6), (4, 100, 4), (12, 96, 12)), ((0, 14, 2), (14, 30, 2), (14, 14, 1)),
            ((0, 13, 2), (14, 30, 2), (0, -1, 1)), ((0, 100, 7), (1, 100, 5), (21, 91, 35)), ((100, 0, -7), (1, 100, 5), (16, 86, 35)),
            ((100, 0, -7), (100, 1, -5), (30, 100, 35)), ((5, 5, 9), (0, 100, 5), (5, 5, 1)), ((5, 5, -9), (0, 100, 4), (0, -1, 1)),
        ]:
            self.assertEqual(met(one, other), told)
            self.assertEqual(met(other, one), told)

    def test_far_ones(self):
        one, other = (0, FAR, 10 ** 15 + 37), (0, FAR, 10 ** 15 + 91)
        step = math.lcm(10 ** 15 + 37, 10 ** 15 + 91)
        self.assertGreater(step, FAR)
        self.assertEqual(met(one, other), (0, 0, 1))
        self.assertEqual(met((-FAR, FAR, 10 ** 15), (-FAR, FAR, 10 ** 15 - 1)), (-FAR, FAR - 2 * 10 ** 15, FAR - 10 ** 15))
        self.assertEqual(met((FAR, -FAR, -10 ** 15), (-FAR, FAR, 10 ** 15 - 1)), (-FAR, FAR - 2 * 10 ** 15, FAR - 10 ** 15))

    def test_a_step_above_far_numbers(self):
        small, great = 10 ** 15 + 37, 10 ** 15 + 91
        step = math.lcm(small, great)
        start = -FAR + 5
        self.assertLess(start + step, FAR)
        told = met((start, FAR, small), (start, FAR, great))
        self.assertEqual(told, (start, start + step, step))
        self.assertGreater(told[2], FAR)
        low = start + small
        self.assertEqual(met((low, FAR, small), (start, FAR, great)), (start + step, start + step, 1))
        self.assertEqual(met((start, start + step - 1, small), (start, FAR, great)), (start, start, 1))

    def test_far_ones_against_their_rests(self):
        rng = chosen.generator(63)
        for _ in range(300):
            step, its = rng.randint(1, 10 ** rng.randint(1, 16)), rng.randint(1, 10 ** rng.randint(1, 16))
            shared = rng.randint(-FAR // 2, FAR // 2)
            one = (shared - step * rng.randint(0, 9), shared + step * (FAR // 4 // step), step)
            other = (shared - its * rng.randint(0, 9), shared + its * (FAR // 4 // its), its)
            low, high, both = met(one, other)
            self.assertEqual((shared - low) % both, 0)
            for number in [low, high, shared]:
                self.assertIsNotNone(triplet_index(one, number))
                self.assertIsNotNone(triplet_index(other, number))
            multiple = math.lcm(step, its)
            if triplet_size((low, high, 1)) > 1:
                self.assertEqual(both, multiple)
            self.assertGreater(high + multiple, min(one[1], other[1]))
            self.assertLess(low - multiple, max(one[0], other[0]))
            self.assertIs(lies_in(one, other), step % its == 0 and one[0] >= other[0])

    def test_far_ones_lie_in_one_another(self):
        for one, other, told in [
            ((-FAR, FAR, 1), (-FAR, FAR, 1), True), ((FAR, -FAR, -1), (-FAR, FAR, 1), True), ((-FAR, FAR, 2), (-FAR, FAR, 1), True),
            ((-FAR, FAR, 1), (-FAR, FAR, 2), False), ((-FAR, FAR, 1), (-FAR + 1, FAR, 1), False), ((-FAR, FAR, 1), (-FAR, FAR - 1, 1), False),
            ((-FAR, FAR, 6), (-FAR, FAR, 3), True), ((-FAR + 1, FAR, 6), (-FAR, FAR, 3), False), ((FAR, -FAR, -6), (-FAR, FAR, 2), True),
            ((0, FAR, FAR), (-FAR, FAR, FAR), True), ((-FAR, FAR, FAR), (0, FAR, FAR), False), ((0, FAR, FAR), (0, FAR, FAR - 1), False),
            ((0, 10 ** 29, 10 ** 27), (0, FAR, 10 ** 27), True), ((0, 10 ** 29, 10 ** 27), (0, 10 ** 29 - 1, 10 ** 27), False),
        ]:
            self.assertIs(lies_in(one, other), told, (one, other))


if __name__ == "__main__":
    unittest.main()
