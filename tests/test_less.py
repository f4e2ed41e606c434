"""Promise 7, and the facts of 9 on it."""

import itertools
import unittest

import chosen
import plain
from sectionwise.errors import InvalidTriplet, LimitExceeded
from sectionwise.triplets import apart, less, met, normal, triplet_size, turned, union_size
from wrong import raised

FAR = 10 ** 30
LIMIT = (LimitExceeded, 300)


def any_triplet(rng, width=60, step=9):
    steps = [number for number in range(-step, step + 1) if number]
    return (rng.randint(-width, width), rng.randint(-width, width), rng.choice(steps))


class Less(unittest.TestCase):

    def test_against_all_elements(self):
        rng = chosen.generator(71)
        for _ in range(4000):
            one, other = any_triplet(rng), any_triplet(rng)
            self.assertEqual(less(one, other), plain.less(one, other), (one, other))

    def test_small_ones_against_all_elements(self):
        few = [(first, last, step) for first in (0, 1, 2) for last in (0, 3, 4, 7) for step in (-2, -1, 1, 2, 3)]
        few += [(last, first, -step) for first, last, step in few]
        for one, other in itertools.product(few, few):
            self.assertEqual(less(one, other), plain.less(one, other), (one, other))

    def test_by_words(self):
        for one, other, told in [
            ((0, 20, 2), (4, 16, 6), [(0, 2, 2), (6, 12, 6), (8, 14, 6), (18, 20, 2)]),
            ((20, 0, -2), (16, 4, -6), [(0, 2, 2), (6, 12, 6), (8, 14, 6), (18, 20, 2)]),
            ((0, 20, 2), (1, 99, 2), [(0, 20, 2)]), ((20, 1, -2), (1, 99, 2), [(2, 20, 2)]),
            ((0, 20, 2), (4, 4, 9), [(0, 2, 2), (6, 20, 2)]), ((0, 4, 2), (2, 2, 1), [(0, 0, 1), (4, 4, 1)]),
            ((0, 4, 2), (0, 0, 1), [(2, 4, 2)]), ((0, 4, 2), (4, 4, 1), [(0, 2, 2)]), ((4, 4, 9), (0, 9, 1), []),
            ((0, 9, 1), (-5, 50, 1), []), ((0, 9, 1), (3, 4, 1), [(0, 2, 1), (5, 9, 1)]), ((5, 0, 1), (0, 9, 1), []),
            ((5, 0, 1), (9, 0, 1), []), ((0, 5, 1), (9, 0, 1), [(0, 5, 1)]), ((7, 7, -3), (9, 0, 1), [(7, 7, 1)]),
            ((0, 9, 3), (0, 9, 9), [(3, 3, 1), (6, 6, 1)]), ((0, 12, 3), (0, 9, 9), [(3, 3, 1), (6, 6, 1), (12, 12, 1)]),
            ((0, 27, 3), (0, 30, 9), [(3, 21, 9), (6, 24, 9)]),
        ]:
            self.assertEqual(less(one, other), told, (one, other))

    def test_how_many_steps_apart_the_shared_ones_may_be(self):
        for step in (1, 3, 10 ** 20):
            one = (0, 100000 * step, step)
            for apart_by in (2, 299, 300):
                told = less(one, (0, 100000 * step, apart_by * step))
                self.assertEqual(len([piece for piece in told if piece[0] < apart_by * step]), apart_by - 1)
                self.assertEqual(raised(less, turned(one), (0, apart_by * step, apart_by * step)), None)
            for apart_by in (301, 302, 50000):
                self.assertEqual(raised(less, one, (0, 100000 * step, apart_by * step)), LIMIT)
                self.assertEqual(raised(less, turned(one), (0, apart_by * step, apart_by * step)), LIMIT)
            # A single shared element has no step.
            for apart_by in (301, 100000):
                self.assertIsNone(raised(less, one, (step, apart_by * step, apart_by * step)))
                self.assertIsNone(raised(less, one, (0, apart_by * step - 1, apart_by * step)))

    def test_pieces_three_hundred_steps_apart(self):
        told = less((0, 901, 1), (0, 901, 300))
        self.assertEqual(len(told), 300)
        self.assertEqual(told[0], (1, 601, 300))
        self.assertEqual(told[298], (299, 899, 300))
        self.assertEqual(told[299], (901, 901, 1))
        self.assertEqual(told, plain.less((0, 901, 1), (0, 901, 300)))

    def test_two_shared_ones_apart(self):
        self.assertEqual(less((0, 5, 1), (1, 4, 3)), [(0, 0, 1), (2, 2, 1), (3, 3, 1), (5, 5, 1)])
        self.assertEqual(len(less((-1, 302, 1), (0, 300, 300))), 301)
        self.assertEqual(raised(less, (-1, 302, 1), (0, 301, 301)), LIMIT)

    def test_far_ones(self):
        self.assertEqual(less((-FAR, FAR, 1), (-FAR, FAR, 2)), [(-FAR + 1, FAR - 1, 2)])
        self.assertEqual(less((-FAR, FAR, 1), (0, 0, 1)), [(-FAR, -1, 1), (1, FAR, 1)])
        self.assertEqual(less((FAR, -FAR, -1), (5, FAR - 5, 1)), [(-FAR, 4, 1), (FAR - 4, FAR, 1)])
        self.assertEqual(less((-FAR, FAR, 1), (FAR, -FAR, -1)), [])
        self.assertEqual(less((-FAR, FAR, FAR), (0, FAR, 1)), [(-FAR, -FAR, 1)])
        self.assertEqual(raised(less, (-FAR, FAR, 1), (-FAR, FAR, FAR)), LIMIT)
        start = -FAR + 5
        self.assertEqual(less((start, FAR, FAR), (start, FAR, 2)), [])
        self.assertEqual(less((start, FAR, FAR), (start, FAR, 3)), [(5, 5, 1)])

    def test_steps_of_pieces_above_far_numbers(self):
        # What is shared are two numbers, 2 * FAR - 4 apart, with one number of one between them.
        one, other = (-FAR, FAR, FAR - 2), (-FAR, FAR, 2 * (FAR - 2))
        self.assertEqual(raised(less, one, other), (InvalidTriplet, "other"))
        other = (-FAR, FAR, FAR - 1)
        self.assertEqual(met(one, other), (-FAR, -FAR, 1))
        small, great = 10 ** 15 + 37, 10 ** 15 + 91
        self.assertEqual(raised(less, (-FAR, FAR, small), (-FAR, FAR, great)), LIMIT)
        step = 6 * 10 ** 28
        one, other = (-FAR, FAR, step), (-FAR, FAR, step // 6 * 5)
        told = less(one, other)
        self.assertEqual(met(one, other)[2], 5 * step)
        self.assertEqual(sum(triplet_size(piece) for piece in told), triplet_size(one) - triplet_size(met(one, other)))
        one, other = (-FAR, FAR, 4 * 10 ** 29 + 4), (-FAR, FAR, 6 * 10 ** 29 + 6)
        both = met(one, other)
        self.assertEqual(both, (-FAR, 2 * 10 ** 29 + 12, 12 * 10 ** 29 + 12))
        self.assertEqual(less(one, other), [
            (-6 * 10 ** 29 + 4, -6 * 10 ** 29 + 4, 1), (-2 * 10 ** 29 + 8, -2 * 10 ** 29 + 8, 1), (6 * 10 ** 29 + 16, 6 * 10 ** 29 + 16, 1),
        ])

    def test_facts(self):
        rng = chosen.generator(72)
        for _ in range(800):
            one, other = any_triplet(rng), any_triplet(rng)
            told = less(one, other)
            self.assertTrue(all(normal(piece) == piece and triplet_size(piece) > 0 for piece in told))
            for piece, its in itertools.combinations(told + [met(one, other)], 2):
                self.assertEqual(met(piece, its), (0, -1, 1))
            pieces = [number for piece in told + [met(one, other)] for number in plain.numbers(piece)]
            self.assertEqual(sorted(pieces), sorted(plain.numbers(one)))


class Apart(unittest.TestCase):

    def test_against_all_elements(self):
        rng = chosen.generator(73)
        many = 0
        for _ in range(500):
            some = [any_triplet(rng, 40, 6) for _ in range(rng.randint(0, 5))]
            told = plain.apart(some)
            if told is None:
                many += 1
                self.assertEqual(raised(apart, some), LIMIT)
            else:
                self.assertEqual(apart(some), told, some)
                self.assertEqual(apart(tuple(some)), told)
        self.assertLess(many, 100)

    def test_eight_near_ones_against_all_elements(self):
        rng = chosen.generator(74)
        for _ in range(60):
            some = [any_triplet(rng, 15, 4) for _ in range(8)]
            told = apart(some)
            self.assertEqual(told, plain.apart(some), some)
            self.assertEqual(sorted(number for piece in told for number in plain.numbers(piece)), plain.union(some))
            self.assertEqual(sum(triplet_size(piece) for piece in told), union_size(some))

    def test_by_words(self):
        for some, told in [
            ([], []), ((), []), ([(5, 0, 1)], []), ([(9, 0, -3)], [(0, 9, 3)]), ([(4, 4, 9)], [(4, 4, 1)]),
            ([(0, 9, 1), (0, 9, 1)], [(0, 9, 1)]), ([(0, 9, 1), (5, 14, 1)], [(0, 9, 1), (10, 14, 1)]),
            ([(5, 14, 1), (0, 9, 1)], [(5, 14, 1), (0, 4, 1)]), ([(0, 8, 2), (9, 0, -1)], [(0, 8, 2), (1, 7, 2), (9, 9, 1)]),
            ([(1, 0, 1), (0, 3, 1), (1, 0, 1), (2, 5, 1), (3, 3, 1)], [(0, 3, 1), (4, 5, 1)]),
            ([(3, 3, 1), (6, 6, 1), (0, 9, 1)], [(3, 3, 1), (6, 6, 1), (0, 2, 1), (4, 5, 1), (7, 9, 1)]),
            ([(6, 6, 1), (3, 3, 1), (0, 9, 1)], [(6, 6, 1), (3, 3, 1), (0, 2, 1), (4, 5, 1), (7, 9, 1)]),
            ([(0, 30, 6), (0, 30, 4), (0, 12, 2)], [(0, 30, 6), (4, 16, 12), (8, 20, 12), (28, 28, 1), (2, 2, 1), (10, 10, 1)]),
        ]:
            self.assertEqual(apart(some), told, some)

    def test_nine_are_refused(self):
        self.assertEqual(apart([(1, 2, 1)] * 8), [(1, 2, 1)])
        self.assertEqual(raised(apart, [(1, 2, 1)] * 9), (InvalidTriplet, "triplets"))
        self.assertEqual(raised(apart, ((1, 2, 1),) * 9), (InvalidTriplet, "triplets"))

    def test_more_than_three_hundred_pieces_behind_a_step(self):
        # The shared ones lie 300 apart: 299 triplets begin between them, and one is told ahead.
        some = [(0, 600, 300), (0, 600, 1)]
        self.assertEqual(len(apart(some)), 300)
        self.assertEqual(raised(apart, [(0, 600, 300), (-1, 600, 1)]), LIMIT)
        self.assertEqual(raised(apart, [(0, 600, 300), (0, 601, 1)]), LIMIT)
        self.assertEqual(len(less((-1, 600, 1), (0, 600, 300))), 300)
        self.assertEqual(len(less((-1, 601, 1), (0, 600, 300))), 301)
        self.assertEqual(raised(apart, [(-7, -7, 1), (0, 600, 300), (0, 600, 1)]), LIMIT)
        self.assertEqual(len(apart([(-7, -8, 1), (0, 600, 300), (0, 600, 1)])), 300)
        self.assertEqual(raised(apart, [(0, 301, 301), (0, 400, 1)]), LIMIT)

    def test_pieces_that_a_later_step_takes_away_again(self):
        # Behind the first of two steps there are too many pieces, though none is left at the end.
        self.assertEqual(raised(apart, [(0, 600, 300), (-5, -1, 1), (-5, 600, 1)]), LIMIT)
        self.assertEqual(raised(apart, [(0, 601, 1), (0, 600, 300), (0, 600, 1)]), None)
        self.assertEqual(raised(apart, [(0, 600, 300), (0, 599, 1), (0, 601, 1)]), LIMIT)
        # 300 are told ahead, and behind each step there is nothing more.
        some = [(0, 600, 300), (0, 600, 1)]
        self.assertEqual(len(apart(some + [(300, 300, 1), (9, 8, 1), (600, 0, -300)])), 300)
        self.assertEqual(raised(apart, some + [(601, 601, 1)]), LIMIT)
        self.assertEqual(raised(apart, some + [(3, 3, 1)]), LIMIT)

    def test_far_ones(self):
        self.assertEqual(
            apart([(0, FAR, 2), (1, FAR, 4), (0, FAR, 1)]),
            [(0, FAR, 2), (1, FAR - 3, 4), (3, FAR - 5, 4), (FAR - 1, FAR - 1, 1)],
        )
        self.assertEqual(apart([(FAR, -FAR, -1), (0, 9, 1), (-FAR, FAR, FAR)]), [(-FAR, FAR, 1)])
        self.assertEqual(raised(apart, [(-FAR, FAR, FAR), (-FAR, FAR, 1)]), LIMIT)
        some = [(0, FAR, 6), (0, FAR, 10), (0, FAR, 15)]
        told = apart(some)
        self.assertEqual(sum(triplet_size(piece) for piece in told), union_size(some))
        for piece, its in itertools.combinations(told, 2):
            self.assertEqual(triplet_size(met(piece, its)), 0)


if __name__ == "__main__":
    unittest.main()
