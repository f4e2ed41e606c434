"""Promise 14: stretches of sections of any size."""

import unittest

import chosen
import plain
from sectionwise.sections import count, is_contiguous, stretches

FAR = 10 ** 30
END = 5 * 10 ** 29


def plain_stretches(bounds, section):
    return plain.stretches(plain.places(bounds, section)) if plain.elements(section) else 0


class Stretches(unittest.TestCase):

    def check(self, bounds, section, many):
        self.assertEqual(stretches(bounds, section), many, (bounds, section))
        self.assertIs(is_contiguous(bounds, section), many <= 1, (bounds, section))

    def test_small_ones(self):
        bounds = ((1, 4), (0, 2))
        for section, many in [
            (((1, 4, 1), (0, 2, 1)), 1), ((1, 0), 1), (((4, 1, -1), 0), 4), (([1, 2, 3, 4], [0, 1]), 1), (([1, 1], 0), 2),
            (([4, 1], (0, 1, 1)), 4), (((2, 3, 1), (0, 2, 1)), 3), (((1, 4, 3), (0, 1, 1)), 3), ((4, (0, 2, 1)), 3),
            (([], 9), 0), ((9, (1, 0, 1)), 0), ((2, [1, 1, 1]), 3), (([2, 3, 1], [0]), 2), (((1, 4, 1), 1), 1),
            (((4, 1, -3), (0, 2, 1)), 6), (([4, 3, 2], (0, 2, 1)), 9), (((1, 4, 1), [0, 1, 0]), 2), (((1, 4, 1), (2, 0, -1)), 3),
        ]:
            self.check(bounds, section, many)

    def test_against_a_plain_count(self):
        rng = chosen.generator(14)
        seen = {True: 0, False: 0}
        for _ in range(1500):
            bounds = chosen.bounds(rng, size=200, least=rng.choice([0, 1, 1, 1]))
            section = chosen.section(rng, bounds)
            self.check(bounds, section, plain_stretches(bounds, section))
            seen[is_contiguous(bounds, section)] += 1
        self.assertGreater(min(seen.values()), 200)

    def test_extents_of_one_and_reached_round(self):
        rng = chosen.generator(15)
        for _ in range(1500):
            bounds = tuple((0, rng.choice([0, 0, 1, 1, 2])) for _ in range(rng.randint(3, 7)))
            section = tuple(
                rng.choice([0, high, (0, high, 1), (high, 0, -1), (0, high, 2), [high, 0], [0, high], [0, 0]])
                for _, high in bounds
            )
            self.check(bounds, section, plain_stretches(bounds, section))

    def test_far_first_dimension(self):
        rng = chosen.generator(18)
        for _ in range(200):
            bounds = chosen.bounds(rng, 6, 60, least=1)
            section = chosen.section(rng, bounds)
            many = plain_stretches(bounds, section)
            all_there = len(plain.elements(section))
            far = ((-END, END),) + bounds
            self.check(far, ((-END, END, 1),) + section, many)
            self.check(far, ((-END, END - 1, 1),) + section, all_there)
            self.check(far, ((-END, END - 1, 2),) + section, all_there * END)
            self.check(far, ((END, -END, -1),) + section, all_there * (FAR + 1))

    def test_far_last_dimension(self):
        # Each further subscript of the last part brings as many new stretches as the second one.
        rng = chosen.generator(19)
        for _ in range(300):
            bounds = chosen.bounds(rng, 6, 60, least=1)
            section = chosen.section(rng, bounds)
            step = rng.choice([1, 1, 2, 3, -1, -2])
            near = bounds + ((-20, 20),)
            one = plain_stretches(near, section + ((0, 0, step),))
            two = plain_stretches(near, section + ((0, step, step),))
            last = 10 ** 29 * step
            self.check(bounds + ((-END, END),), section + ((0, last, step),), one + 10 ** 29 * (two - one))

    def test_far_in_seven_dimensions(self):
        bounds = ((-END, END),) * 7
        wide = FAR + 1
        whole = (-END, END, 1)
        self.check(bounds, (whole,) * 7, 1)
        self.check(bounds, (whole,) * 6 + ((-END, END, 2),), END + 1)
        self.check(bounds, ((-END, END, 2),) + (whole,) * 6, (END + 1) * wide ** 6 - (wide ** 6 - 1))
        self.check(bounds, (whole,) * 3 + (7,) + (whole,) * 3, wide ** 3)
        self.check(bounds, (whole,) * 3 + ([7, 8, 8],) + (whole,) * 3, 2 * wide ** 3)
        self.check(bounds, ([7],) + (whole,) * 6, wide ** 6)
        self.check(bounds, (whole,) * 6 + (5,), 1)
        self.check(bounds, (whole,) * 6 + ([5, 6, 7, 7, 8],), 2)
        self.assertEqual(count(bounds, (whole,) * 7), wide ** 7)

    def test_for_more_than_5000_elements(self):
        bounds = ((1, 90), (1, 90))
        self.check(bounds, ((1, 90, 1), (1, 90, 1)), 1)
        self.check(bounds, ((1, 89, 1), (1, 90, 1)), 90)
        self.check(bounds, ([1] + [1] * 60, (90, 1, -1)), 61 * 90)


if __name__ == "__main__":
    unittest.main()
