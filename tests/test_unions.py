"""Promise 8, and the facts of 9 on it."""

import itertools
import math
import unittest

import chosen
import plain
from sectionwise.errors import InvalidArgument, InvalidTriplet
from sectionwise.triplets import apart, first_gap, met, triplet_index, triplet_size, union_element, union_size
from wrong import raised

FAR = 10 ** 30


def any_triplet(rng, width=60, step=9):
    steps = [number for number in range(-step, step + 1) if number]
    return (rng.randint(-width, width), rng.randint(-width, width), rng.choice(steps))


def is_in(some, number):
    return any(triplet_index(triplet, number) is not None for triplet in some)


def cut(some, low, high):
    """Triplets of the elements from low to high; those of some go upward."""
    told = []
    for first, last, step in some:
        start = first if first >= low else first + (low - first + step - 1) // step * step
        told.append((min(start, FAR), max(-FAR, min(last, high)), step))
    return told


class Unions(unittest.TestCase):

    def check(self, some):
        row = plain.union(some)
        self.assertEqual(union_size(some), len(row), some)
        self.assertEqual([union_element(some, index) for index in range(len(row))], row, some)
        for index in [-1, len(row), len(row) + 1, FAR]:
            self.assertEqual(raised(union_element, some, index), (InvalidArgument, "index"), some)
        for low in range(-70, 70, 3):
            gap = next(number for number in itertools.count(low) if number not in row)
            self.assertEqual(first_gap(some, low), gap, (some, low))

    def test_near_ones_against_all_elements(self):
        rng = chosen.generator(81)
        for many in range(9):
            for _ in range(25):
                some = [any_triplet(rng) for _ in range(many)]
                self.check(some)
                self.check(tuple(some))

    def test_dense_ones_against_all_elements(self):
        rng = chosen.generator(82)
        for _ in range(60):
            self.check([any_triplet(rng, 30, 3) for _ in range(rng.randint(2, 8))])

    def test_the_same_one_twice_and_empty_ones(self):
        self.check([(0, 20, 3)] * 8)
        self.check([(0, 20, 3), (18, 0, -3), (5, 4, 1), (0, 20, 3), (4, 4, 9)])
        self.check([(5, 4, 1)] * 8)
        self.check([(4, 4, 1), (4, 4, -9)])
        self.check([])
        self.check(())
        self.assertEqual(union_size([]), 0)
        self.assertEqual(first_gap([], FAR), FAR)
        self.assertEqual(first_gap((), -FAR), -FAR)

    def test_nine_are_refused(self):
        for some in [[(0, 20, 3)] * 9, ((5, 4, 1),) * 9]:
            self.assertEqual(raised(union_size, some), (InvalidTriplet, "triplets"))
            self.assertEqual(raised(union_element, some, 0), (InvalidTriplet, "triplets"))
            self.assertEqual(raised(first_gap, some, 0), (InvalidTriplet, "triplets"))

    def test_in_any_order(self):
        some = [(0, 40, 6), (3, 40, 10), (39, 2, -15)]
        row = plain.union(some)
        for turn in itertools.permutations(some):
            self.assertEqual([union_element(turn, index) for index in range(union_size(turn))], row)


class FarUnions(unittest.TestCase):

    def test_that_cover_all(self):
        some = [(-FAR, FAR, 2), (FAR - 1, -FAR, -2)]
        self.assertEqual(union_size(some), 2 * FAR + 1)
        for index in [0, 1, 5, FAR, 2 * FAR - 1, 2 * FAR]:
            self.assertEqual(union_element(some, index), index - FAR)
        for low in [-FAR, -FAR + 1, 0, FAR - 1, FAR]:
            self.assertEqual(first_gap(some, low), FAR + 1)
        self.assertEqual(raised(union_element, some, 2 * FAR + 1), (InvalidArgument, "index"))
        self.assertEqual(raised(union_element, some, -1), (InvalidArgument, "index"))
        self.assertEqual(raised(first_gap, some, FAR + 1), (InvalidArgument, "low"))
        self.assertEqual(raised(first_gap, some, -FAR - 1), (InvalidArgument, "low"))

    def test_first_gaps_at_the_ends(self):
        self.assertEqual(first_gap([(FAR, FAR, 1)], FAR), FAR + 1)
        self.assertEqual(first_gap([(FAR - 1, FAR - 1, 1)], FAR), FAR)
        self.assertEqual(first_gap([(-FAR, -FAR, 1)], -FAR), -FAR + 1)
        self.assertEqual(first_gap([(-FAR, FAR, FAR)], 0), 1)
        self.assertEqual(first_gap([(-FAR, FAR, FAR)], 1), 1)
        self.assertEqual(first_gap([(0, FAR, 1)], -1), -1)
        self.assertEqual(first_gap([(0, FAR - 1, 1)], 3), FAR)

    def test_a_gap_far_out(self):
        some = [(0, FAR, 2), (1, 10 ** 25 - 1, 2), (10 ** 25 + 3, FAR, 2)]
        self.assertEqual(first_gap(some, 0), 10 ** 25 + 1)
        self.assertEqual(first_gap(some, 10 ** 25 + 1), 10 ** 25 + 1)
        self.assertEqual(first_gap(some, 10 ** 25 + 2), FAR + 1)
        self.assertEqual(union_size(some), FAR)
        self.assertEqual(union_element(some, 10 ** 25), 10 ** 25)
        self.assertEqual(union_element(some, 10 ** 25 + 1), 10 ** 25 + 2)

    def test_that_repeat_with_a_period(self):
        steps = [2, 3, 5, 7]
        some = [(0, FAR, step) for step in steps]
        period = 210
        row = [number for number in range(period) if any(number % step == 0 for step in steps)]
        whole, rest = divmod(FAR + 1, period)
        self.assertEqual(union_size(some), whole * len(row) + len([number for number in row if number < rest]))
        for index in [0, 1, 100, 10 ** 20, 10 ** 29 + 7, union_size(some) - 1]:
            turn, at = divmod(index, len(row))
            self.assertEqual(union_element(some, index), turn * period + row[at])
        for low in [2, 200, 10 ** 20 + 5, 10 ** 29 + 83]:
            gap = low
            while any(gap % step == 0 for step in steps):
                gap += 1
            self.assertEqual(first_gap(some, low), gap)

    def test_a_covering_by_periods(self):
        # Each number is 0 modulo 2, 0 modulo 3, 1 modulo 4, 5 modulo 6 or 7 modulo 12.
        some = [(0, FAR, 2), (0, FAR, 3), (1, FAR, 4), (5, FAR, 6), (7, FAR, 12)]
        self.assertEqual(first_gap(some, 0), FAR + 1)
        self.assertEqual(union_size(some), FAR + 1)
        self.assertEqual(union_element(some, 10 ** 29 + 1), 10 ** 29 + 1)
        some = some[:-1]
        self.assertEqual(first_gap(some, 0), 7)
        self.assertEqual(first_gap(some, 10 ** 28), 10 ** 28 + (7 - 10 ** 28) % 12)
        self.assertEqual(union_size(some), FAR + 1 - (FAR - 7) // 12 - 1)

    def test_far_steps_without_a_common_divisor(self):
        steps = [10 ** 3 + 9, 10 ** 4 + 7, 10 ** 5 + 3, 10 ** 6 + 3, 10 ** 7 + 19, 10 ** 8 + 7, 10 ** 9 + 7, 10 ** 12 + 39]
        for one, other in itertools.combinations(steps, 2):
            self.assertEqual(math.gcd(one, other), 1)
        some = [(0, FAR, step) for step in steps]
        size = 0
        for many in range(1, 9):
            for chosen_steps in itertools.combinations(steps, many):
                size += (-1) ** (many + 1) * (FAR // math.prod(chosen_steps) + 1)
        self.assertEqual(union_size(some), size)
        self.assertEqual(union_size(some[::-1]), size)
        for index in [0, 1, 2, 7, size // 3, size - 2, size - 1]:
            number = union_element(some, index)
            self.assertTrue(is_in(some, number))
            self.assertEqual(union_size(cut(some, -FAR, number)), index + 1)
            self.assertEqual(first_gap(some, number), number + 1 if not is_in(some, number + 1) else first_gap(some, number + 1))
        self.assertEqual(raised(union_element, some, size), (InvalidArgument, "index"))

    def test_far_ones_against_cut_ones(self):
        rng = chosen.generator(83)
        for _ in range(40):
            some = []
            for _ in range(rng.randint(1, 8)):
                step = rng.randint(1, 10 ** rng.randint(1, 29))
                some.append((rng.randint(-FAR, FAR), rng.randint(-FAR // 2, FAR), step))
            turned = [(first + (last - first) // step * step, first, -step) if first <= last else (first, last, step)
                      for first, last, step in some]
            size = union_size(some)
            self.assertEqual(union_size(turned), size)
            for index in [number for number in [0, size // 2, size - 1] if 0 <= number < size]:
                number = union_element(some, index)
                self.assertEqual(union_element(turned, index), number)
                self.assertTrue(is_in(some, number))
                self.assertEqual(union_size(cut(some, -FAR, number)), index + 1)
                self.assertEqual(union_size(cut(some, -FAR, number - 1)), index)
                self.assertEqual(union_size(cut(some, number, FAR)), size - index)
                gap = first_gap(some, number)
                self.assertGreater(gap, number)
                self.assertFalse(is_in(some, gap) if gap <= FAR else False)
                self.assertEqual(union_size(cut(some, number, gap - 1)), gap - number)

    def test_shifted_near_ones(self):
        rng = chosen.generator(84)
        for _ in range(60):
            some = [any_triplet(rng) for _ in range(rng.randint(1, 6))]
            row = plain.union(some)
            for by in [10 ** 29, FAR - 60, -FAR + 60]:
                moved = [(first + by, last + by, step) for first, last, step in some]
                self.assertEqual(union_size(moved), len(row))
                self.assertEqual([union_element(moved, index) for index in range(0, len(row), 5)], [number + by for number in row[::5]])
                gap = first_gap(some, 0)
                self.assertEqual(first_gap(moved, by), gap + by)


class Facts(unittest.TestCase):

    def test_sizes_of_met_and_union_come_to_both_sizes(self):
        rng = chosen.generator(85)
        for width, step in [(60, 9), (10 ** 12, 10 ** 6), (FAR, 10 ** 17), (FAR, FAR)]:
            for _ in range(100):
                one, other = any_triplet_far(rng, width, step), any_triplet_far(rng, width, step)
                both = triplet_size(met(one, other)) if met(one, other)[2] <= FAR else 2
                self.assertEqual(union_size([one, other]) + both, triplet_size(one) + triplet_size(other), (one, other))

    def test_apart_has_the_elements_of_the_union(self):
        rng = chosen.generator(86)
        for _ in range(60):
            some = [(rng.randint(-9, 9), FAR - rng.randint(0, 99), rng.randint(1, 6)) for _ in range(4)]
            told = apart(some)
            self.assertEqual(sum(triplet_size(piece) for piece in told), union_size(some))


def any_triplet_far(rng, width, step):
    return (rng.randint(-width, width), rng.randint(-width, width), rng.choice([-1, 1]) * rng.randint(1, step))


if __name__ == "__main__":
    unittest.main()
