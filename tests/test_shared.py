"""Promise 15: what two sections of one array share, and whether they are the same."""

import math
import unittest

import chosen
import plain
from sectionwise.errors import LimitExceeded
from sectionwise.sections import count, element_of, includes, is_once, same_sequence, same_set, shared
from wrong import raised

FAR = 10 ** 30
END = 5 * 10 ** 29


def pair(rng, bounds):
    """Two sections of an array that are often alike."""
    one = chosen.section(rng, bounds)
    if rng.random() < 0.4:
        return one, chosen.section(rng, bounds)
    parts = []
    for part, (low, high) in zip(one, bounds):
        row = plain.numbers(part)
        kind = rng.random()
        if kind < 0.3:
            parts.append(row)
        elif kind < 0.5 and len(row) == 1:
            parts.append(rng.choice([row[0], (row[0], row[0], rng.choice([-3, 1, 5]))]))
        elif kind < 0.6:
            parts.append(row[::-1])
        elif kind < 0.7 and low <= high:
            parts.append(chosen.part(rng, low, high))
        else:
            parts.append(part)
    if all(plain.is_part(part) for part in parts) and plain.is_section(bounds, tuple(parts)):
        return one, tuple(parts)
    return one, one


class Pairs(unittest.TestCase):

    def test_small_ones_against_a_plain_count(self):
        rng = chosen.generator(20)
        seen = {}
        for _ in range(2500):
            bounds = chosen.bounds(rng, size=120, least=rng.choice([0, 1, 1, 1, 1]))
            one, other = pair(rng, bounds)
            rows, others = plain.elements(one), plain.elements(other)
            both = set(rows) & set(others)
            least = None
            if both:
                least = next(element for element in plain.array(bounds) if element in both)
            told = shared(bounds, one, other)
            self.assertEqual(told, (len(both), least), (bounds, one, other))
            self.assertIs(type(told), tuple)
            answers = (set(others) <= set(rows), set(rows) == set(others), rows == others)
            self.assertIs(includes(bounds, one, other), answers[0], (bounds, one, other))
            self.assertIs(same_set(bounds, one, other), answers[1], (bounds, one, other))
            self.assertIs(same_sequence(bounds, one, other), answers[2], (bounds, one, other))
            seen[answers] = seen.get(answers, 0) + 1
        self.assertEqual(len(seen), 4)
        self.assertGreater(min(seen.values()), 80)

    def test_triplets_against_a_plain_count(self):
        rng = chosen.generator(21)
        bounds = ((-40, 60),)
        for _ in range(3000):
            one, other = [
                (first, min(60, max(-40, first + rng.randint(-60, 60))), rng.choice([-12, -6, -5, -4, -3, -2, 1, 2, 3, 4, 6, 9]))
                for first in [rng.randint(-40, 60), rng.randint(-40, 60)]
            ]
            both = sorted(set(plain.numbers(one)) & set(plain.numbers(other)))
            self.assertEqual(shared(bounds, (one,), (other,)), (len(both), (both[0],) if both else None), (one, other))
            inside = set(plain.numbers(other)) <= set(plain.numbers(one))
            self.assertIs(includes(bounds, (one,), (other,)), inside, (one, other))
            self.assertIs(same_set(bounds, (one,), (other,)), set(plain.numbers(one)) == set(plain.numbers(other)))
            self.assertIs(same_sequence(bounds, (one,), (other,)), plain.numbers(one) == plain.numbers(other))

    def test_without_elements(self):
        bounds = ((1, 4), (1, 4))
        none, other_none, some = ([], 99), (7, (1, 0, 1)), ((1, 4, 1), 2)
        self.assertEqual(shared(bounds, none, some), (0, None))
        self.assertEqual(shared(bounds, some, other_none), (0, None))
        self.assertEqual(shared(bounds, none, none), (0, None))
        self.assertEqual(shared(bounds, ([], 2), ((1, 4, 1), 2)), (0, None))
        self.assertEqual([includes(bounds, some, none), includes(bounds, none, some)], [True, False])
        self.assertEqual([includes(bounds, none, other_none), same_set(bounds, none, other_none)], [True, True])
        self.assertEqual([same_set(bounds, none, some), same_sequence(bounds, none, some)], [False, False])
        self.assertIs(same_sequence(bounds, none, other_none), True)
        self.assertIs(same_sequence(bounds, ((-FAR, FAR, 1), []), ([], [9, 9])), True)
        self.assertEqual(shared(((1, 0), (1, 3)), ([], 1), ([], 1)), (0, None))

    def test_same_sequence_of_unlike_shapes(self):
        bounds = ((1, 9), (1, 9))
        same = [((2, 4), ([2], (4, 4, 7))), (((1, 9, 1), 4), ((1, 9, 1), [4])), ((3, (9, 1, -4)), ([3], [9, 5, 1])),
                (([5, 5], 1), ([5], [1, 1])), (([5] * 6, [1, 1]), ([5, 5, 5], [1] * 4)), (((4, 5, 2), [1, 1]), ([4, 4], 1))]
        for one, other in same:
            self.assertIs(same_sequence(bounds, one, other), True, (one, other))
            self.assertIs(same_sequence(bounds, other, one), True, (one, other))
        for one, other in [(((1, 9, 1), 4), ((9, 1, -1), 4)), ((2, 4), (4, 2)), (([5, 5], 1), (5, 1)), (([1, 2], 1), ([1, 1], 1)),
                           (([1, 2], [1, 1]), ([1, 1], [1, 2])), (([1, 2, 1], 1), ([1, 1, 2], 1)), ((1, [1, 2]), (1, [2, 1]))]:
            self.assertIs(same_sequence(bounds, one, other), False, (one, other))
            self.assertIs(same_sequence(bounds, other, one), False, (one, other))


class FarPairs(unittest.TestCase):

    def test_triplets_by_small_steps(self):
        # What two triplets share is told by the residues modulo the product of their steps.
        rng = chosen.generator(22)
        bounds = ((-END, END),)
        for _ in range(400):
            steps = [rng.choice([1, 2, 3, 4, 6, 8, 9, 10, 15]) for _ in range(2)]
            lows = [rng.randint(-END, -END + 10 ** rng.choice([1, 9, 29])) for _ in range(2)]
            highs = [low + step * rng.randint(10 ** 20, 10 ** 28) for low, step in zip(lows, steps)]
            start, top = max(lows), min(highs)
            fitting = [number for number in range(start, start + steps[0] * steps[1])
                       if all((number - low) % step == 0 for low, step in zip(lows, steps)) and number <= top]
            many = sum((top - number) // (steps[0] * steps[1]) + 1 for number in fitting)
            one, other = [
                rng.choice([(low, high, step), (high, low, -step), (low, high + step - 1, step)])
                for low, high, step in zip(lows, highs, steps)
            ]
            expected = (many, (fitting[0],) if fitting else None)
            self.assertEqual(shared(bounds, (one,), (other,)), expected, (one, other))
            self.assertEqual(shared(bounds, (other,), (one,)), expected, (one, other))

    def test_triplets_by_great_steps(self):
        rng = chosen.generator(23)
        bounds = ((-END, END),)
        seen = 0
        for _ in range(400):
            size = rng.choice([3, 9, 14, 15, 16, 28])
            steps = [rng.randint(1, 10 ** size) * rng.choice([1, 6, 35]) for _ in range(2)]
            common = rng.randint(-10 ** 29, 10 ** 29)
            rows = [(common - rng.randint(0, 10 ** 29) // step * step, common + rng.randint(0, 10 ** 29) // step * step, step)
                    for step in steps]
            period = math.lcm(*steps)
            start, top = max(row[0] for row in rows), min(row[1] for row in rows)
            least = common - (common - start) // period * period
            many = (top - least) // period + 1
            seen += many > 1
            one, other = [rng.choice([(low, high, step), (high, low, -step)]) for low, high, step in rows]
            self.assertEqual(shared(bounds, (one,), (other,)), (many, (least,)), (one, other))
            moved = (other[0] + 1, other[1] + 1, other[2])
            if math.gcd(*steps) > 1:
                self.assertEqual(shared(bounds, (one,), (moved,)), (0, None))
        self.assertGreater(seen, 100)

    def test_neighbouring_steps(self):
        bounds = ((0, END),)
        one, other = (0, END, 10 ** 14 + 1), (3, END, 10 ** 14)
        # 3 * (10 ** 14 + 1) is 3 more than a multiple of 10 ** 14.
        least = 3 * (10 ** 14 + 1)
        many = (END - least) // (10 ** 14 * (10 ** 14 + 1)) + 1
        self.assertEqual(shared(bounds, (one,), (other,)), (many, (least,)))
        self.assertEqual(shared(bounds, ((0, END, 10 ** 20 + 1),), ((3, END, 10 ** 20),)), (1, (3 * (10 ** 20 + 1),)))
        self.assertEqual(shared(bounds, ((0, 2 * 10 ** 20, 10 ** 20 + 1),), ((3, END, 10 ** 20),)), (0, None))

    def test_in_seven_dimensions(self):
        bounds = ((-END, END),) * 7
        one = ((-END, END, 1), 7, [3, 1, 3, 2], (0, END, 6), (END, -END, -1), (0, 1, 1), [END, -END])
        other = ((END, -END, -2), (7, 9, 1), (2, 90, 1), (4, END, 10), [9, 8, -9, 9], [1, 0, 5], (-END, END, FAR))
        fours = (END - 24) // 30 + 1
        self.assertEqual(shared(bounds, one, other), ((END + 1) * 2 * fours * 3 * 2 * 2, (-END, 7, 2, 24, -9, 0, -END)))
        self.assertEqual(shared(bounds, other, one), ((END + 1) * 2 * fours * 3 * 2 * 2, (-END, 7, 2, 24, -9, 0, -END)))
        self.assertIs(includes(bounds, one, other), False)
        self.assertIs(includes(bounds, one, one), True)
        self.assertIs(same_set(bounds, one, one), True)
        self.assertIs(same_set(bounds, one, other), False)
        self.assertIs(same_sequence(bounds, one, other), False)
        nothing = one[:5] + ((2, 9, 1),) + one[6:]
        self.assertEqual(shared(bounds, nothing, one), (0, None))

    def test_includes_of_far_sections(self):
        bounds = ((-END, END), (1, 70))
        wide = ((-END, END, 3), (1, 70, 1))
        for other, told in [
            (((-END, END, 6), 4), True), (((-END, END, 4), 4), False), (((-END + 3, END, 9), [1, 70]), True),
            (((-END + 1, END, 3), 4), False), (((END - 4, -END, -6), 1), (FAR - 4) % 3 == 0), ((-END + 300, 70), True),
            ((-END + 301, 70), False), (([-END, -END + 3], 1), True), (([-END, -END + 4], 1), False),
            (((-END, -END + 10 ** 20, 10 ** 20), 1), (10 ** 20) % 3 == 0), (((-END, -END + 3 * 10 ** 20, 3 * 10 ** 20), 1), True),
        ]:
            self.assertIs(includes(bounds, wide, other), told, other)
        row = list(range(1, 65))
        self.assertIs(includes(bounds, ((-END, END, 1), row), ((-END, END, 1), (1, 64, 1))), True)
        self.assertIs(includes(bounds, ((-END, END, 1), row), ((-END, END, 1), (1, 65, 1))), False)
        self.assertIs(includes(bounds, (row, 1), ((-END, END, 1), 1)), False)
        self.assertIs(includes(bounds, (5, 1), ((-END, END, 1), 1)), False)
        self.assertIs(includes(bounds, ((1, 3 * 10 ** 20, 3), 1), ((1, 3 * 10 ** 20 + 1, 3), 1)), False)
        self.assertIs(includes(bounds, ((4, 3 * 10 ** 20, 3), 1), ((1, 3 * 10 ** 20, 3), 1)), False)
        self.assertIs(includes(bounds, ((1, 66, 1), 1), (row, 1)), True)
        ends = [1, 2, 65, 66]
        self.assertIs(includes(bounds, (ends, 1), ((1, 65, 1), 1)), False)
        self.assertIs(includes(bounds, (ends, 1), ((65, 1, -1), 1)), False)
        self.assertIs(includes(bounds, (ends, 1), ((1, 65, 64), 1)), True)
        # The one has each second, or each third, element of the other one, and both its ends.
        self.assertIs(includes(bounds, ((0, 600, 6), 1), ((0, 600, 3), 1)), False)
        self.assertIs(includes(bounds, ((0, 600, 6), 1), ((600, 0, -2), 1)), False)
        self.assertIs(includes(bounds, ((0, 600, 3), 1), ((600, 0, -6), 1)), True)

    def test_rows_of_64_and_more(self):
        bounds = ((1, 70), (1, 3))
        row = list(range(1, 65))
        self.assertIs(same_sequence(bounds, (row, 1), ((1, 64, 1), 1)), True)
        self.assertIs(same_sequence(bounds, ((1, 64, 1), 1), (row, [1])), True)
        self.assertIs(same_sequence(bounds, (row, 1), ((64, 1, -1), 1)), False)
        self.assertIs(same_sequence(bounds, (row[::-1], 1), ((64, 1, -1), 1)), True)
        self.assertIs(same_sequence(bounds, (row, 1), (row[1:] + [70], 1)), False)
        self.assertIs(same_set(bounds, (row, 1), ((64, 1, -1), 1)), True)
        self.assertIs(same_set(bounds, (row, 1), ((65, 1, -1), 1)), False)
        self.assertEqual(shared(bounds, (row, (1, 2, 1)), ((70, 1, -3), 2)), (22, (1, 2)))

    def test_same_set_of_far_sections(self):
        bounds = ((-END, END), (1, 70))
        one = ((-END, END, 7), [4, 2, 4])
        last = END - FAR % 7
        for other, told in [
            (((last, -END, -7), (2, 4, 2)), True), (((last, -END, -7), (2, 4, 1)), False), (((-END, last, 7), [2, 4]), True),
            (((-END, last - 1, 7), [2, 4]), False), (((-END, END, 14), [2, 4]), False), (((-END, END, 7), 4), False),
        ]:
            self.assertIs(same_set(bounds, one, other), told, other)
            self.assertIs(same_set(bounds, other, one), told, other)

    def test_same_sequence_of_far_sections(self):
        bounds = ((-END, END), (1, 70), (-END, END))
        whole = (-END, END, 1)
        one = (whole, [4, 2], 5)
        cases = [
            ((whole, (4, 2, -2), [5]), True), ((whole, (4, 2, -2), (5, 5, 9)), True), ((whole, [2, 4], 5), False),
            (((END, -END, -1), [4, 2], 5), False), ((whole, [4, 4], 5), False), ((whole, [4, 2], 6), False),
            (((-END, END - 1, 1), [4, 2], 5), False), ((5, [4, 2], whole), False), ((whole, 4, [5, 5]), False),
        ]
        for other, told in cases:
            self.assertIs(same_sequence(bounds, one, other), told, other)
            self.assertIs(same_sequence(bounds, other, one), told, other)
        self.assertIs(same_sequence(bounds, ((0, END, 2), 1, 1), ((0, END - 1, 2), 1, 1)), END % 2 == 1)
        self.assertIs(same_sequence(bounds, ((0, 10 ** 20, 2), 1, 1), ((0, 10 ** 20 + 1, 2), 1, 1)), True)
        self.assertIs(same_sequence(bounds, ((0, 10 ** 20, 2), 1, 1), ((2, 10 ** 20 + 2, 2), 1, 1)), False)
        self.assertIs(same_sequence(bounds, ((0, 10 ** 20, 2), 1, 1), ((0, 10 ** 20 // 2, 1), 1, 1)), False)

    def test_when_same_sequence_is_refused(self):
        bounds = ((1, 10 ** 6), (1, 9))
        twice = ((1, 2500, 1), [3, 3])
        self.assertIs(same_sequence(bounds, twice, twice), True)
        self.assertIs(same_sequence(bounds, twice, ((1, 2500, 1), [3, 3])), True)
        self.assertIs(same_sequence(bounds, twice, ((1, 2500, 1), [3, 4])), False)
        self.assertIs(same_sequence(bounds, twice, ((2500, 1, -1), [3, 3])), False)
        more = ((1, 2501, 1), [3, 3])
        self.assertEqual(raised(same_sequence, bounds, more, more), (LimitExceeded, 5000))
        self.assertEqual(raised(same_sequence, bounds, more, ((2, 2502, 1), [4, 4])), (LimitExceeded, 5000))
        # Of unlike numbers of elements, or with one of them without any twice, it is told.
        self.assertIs(same_sequence(bounds, more, ((1, 2502, 1), [3, 3])), False)
        self.assertIs(same_sequence(bounds, more, ((1, 2501, 1), [3, 4])), False)
        self.assertIs(same_sequence(bounds, ((1, 2501, 1), [3, 4]), more), False)
        self.assertIs(same_sequence(bounds, more, ((1, 5002, 1), 3)), False)
        self.assertIs(same_sequence(bounds, ((1, 5002, 1), 3), ((1, 5002, 1), [3])), True)

    def test_shared_and_sets_are_told_for_any_number(self):
        bounds = ((1, 10 ** 6), (1, 9))
        more = ((1, 2501, 1), [3, 3])
        self.assertGreater(count(bounds, more), 5000)
        self.assertIs(is_once(bounds, more), False)
        self.assertEqual(shared(bounds, more, more), (2501, (1, 3)))
        self.assertIs(includes(bounds, more, ((1, 2501, 1), 3)), True)
        self.assertIs(same_set(bounds, more, ((2501, 1, -1), 3)), True)
        self.assertEqual(element_of(bounds, more, 2501), (1, 3))

    def test_moved_far_away_all_stays(self):
        rng = chosen.generator(24)
        for _ in range(300):
            bounds = chosen.bounds(rng, 3, 60, least=1)
            one, other = pair(rng, bounds)
            if not plain.elements(one) or not plain.elements(other):
                continue
            by = [rng.randint(-4 * 10 ** 29, 4 * 10 ** 29) for _ in bounds]
            moved = [tuple(self.moved(part, far) for part, far in zip(section, by)) for section in (one, other)]
            there = tuple((-END, END) for _ in bounds)
            many, least = shared(bounds, one, other)
            if many:
                least = tuple(number + far for number, far in zip(least, by))
            self.assertEqual(shared(there, *moved), (many, least))
            for function in (includes, same_set, same_sequence):
                self.assertIs(function(there, *moved), function(bounds, one, other))

    def moved(self, part, far):
        if type(part) is int:
            return part + far
        if type(part) is list:
            return [number + far for number in part]
        return (part[0] + far, part[1] + far, part[2])


if __name__ == "__main__":
    unittest.main()
