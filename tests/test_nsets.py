"""Promises 17 and 18, and of 25 what it says of sets."""

import itertools
import math
import time
import unittest

import chosen
import plain
from sectionwise.errors import InvalidArgument, LimitExceeded
from sectionwise.nsets import NSet, complement, meet, union
from wrong import raised

FAR = 10 ** 30
LIMIT = (LimitExceeded, 27720)
END = 400
SOME_STEPS = [1, 2, 3, 4, 5, 6, 8, 9, 10, 12]


def rows(rng, most=6, steps=SOME_STEPS, end=60, ended=0.5):
    """Rows whose firsts and lasts lie near 0."""
    told = []
    for _ in range(rng.randint(0, most)):
        first = rng.randint(0, end)
        told.append((first, rng.choice(steps), rng.randint(first, end) if rng.random() < ended else None))
    return told


def numbers(has):
    """The numbers below an end for which something is so."""
    return [n for n in range(END) if has(n)]


def moved(some, by):
    return [(first + by, step, None if last is None else last + by) for first, step, last in some]


class Rows(unittest.TestCase):

    def test_by_words(self):
        for some, told in [
            ([], []), ((), []), ([(3, 5, None)], list(range(3, END, 5))), ([(3, 5, 18)], [3, 8, 13, 18]), ([(3, 5, 17)], [3, 8, 13]),
            ([(3, 5, 3)], [3]), ([(0, 100, None)], [0, 100, 200, 300]), ([(7, 1, 9)], [7, 8, 9]), ([(7, 2, None), (8, 2, None)], list(range(7, END))),
            ([(0, 1, 0)], [0]), ([(5, 3, 10), (5, 3, 10), (6, 3, 7)], [5, 6, 8]), ([(0, 1, None)], list(range(END))),
        ]:
            self.assertEqual(numbers(NSet(some).has), told, some)

    def test_against_all_numbers(self):
        rng = chosen.generator(171)
        for _ in range(250):
            some = rows(rng)
            made = NSet(some)
            row = numbers(lambda n: plain.in_rows(some, n))
            self.assertEqual(numbers(made.has), row, some)
            for low in range(0, 130, 7):
                self.assertEqual(made.least(low), next((n for n in row if n >= low), None), (some, low))
                self.assertEqual(made.how_many(low), len([n for n in row if n < low]), (some, low))
            self.assertEqual(made.least(), row[0] if row else None)
            for bound in [0, 1, 59, 60, 61, 62, 63, END]:
                self.assertEqual(made.how_many(bound), len([n for n in row if n < bound]), (some, bound))

    def test_lists_and_tuples(self):
        some = [(3, 5, None), (4, 2, 90)]
        self.assertEqual(NSet(some), NSet(tuple(some)))
        self.assertEqual(NSet([]), NSet(()))

    def test_how_many_rows(self):
        some = [(at, 7, 7 * at + 3) for at in range(50)]
        self.assertEqual(numbers(NSet(some).has), numbers(lambda n: plain.in_rows(some, n)))
        self.assertIsNone(raised(NSet, tuple(some)))
        self.assertEqual(raised(NSet, some + [some[0]]), (InvalidArgument, "rows"))
        self.assertEqual(raised(NSet, tuple(some + [some[0]])), (InvalidArgument, "rows"))

    def test_steps_and_ends_go_just_so_far(self):
        for row in [(0, 1, None), (0, 100, None), (0, 1, 0), (FAR, 1, FAR), (FAR, 100, None), (0, 100, FAR), (9, 4, 9)]:
            self.assertIsNone(raised(NSet, [row]), row)
        for row in [
            (0, 0, None), (0, 101, None), (0, -1, None), (-1, 1, None), (FAR + 1, 1, None), (0, 1, FAR + 1), (9, 1, 8), (0, 1, -1),
            (FAR, 1, FAR - 1), (FAR, 1, FAR + 1),
        ]:
            self.assertEqual(raised(NSet, [row]), (InvalidArgument, "rows"), row)

    def test_what_is_asked_for_goes_just_so_far(self):
        made = NSet([(0, 3, None)])
        for function, part in [(made.has, "n"), (made.least, "low"), (made.how_many, "bound")]:
            for value in [0, FAR]:
                self.assertIsNone(raised(function, value))
            for value in [-1, FAR + 1]:
                self.assertEqual(raised(function, value), (InvalidArgument, part))

    def test_the_least_common_multiple(self):
        for steps, is_taken in [
            ([8, 9, 5, 7, 11], True), (list(range(1, 13)), True), ([99, 40, 56], True), ([99, 41], True), ([99, 98], True),
            ([99, 98, 3], True), ([99, 98, 97], False), ([13, 27], True), ([89, 97, 3], True), ([89, 97, 4], False),
            ([8, 9, 5, 7, 13], False), ([99, 41, 7], False), ([16, 27, 64], True), ([100, 99], True), ([100, 99, 7], False),
            ([100, 99, 2], True), ([95, 97, 3], True), ([16, 9, 5, 7, 11], False), ([16, 9, 5, 7], True),
        ]:
            multiple = math.lcm(*steps)
            self.assertIs(multiple <= 27720, is_taken, steps)
            for last in [None, 200, 0]:
                told = raised(NSet, [(0, step, last) for step in steps])
                self.assertEqual(told, None if is_taken else LIMIT, (steps, last))
            # Rows that lie apart are counted as well, and those of one number.
            told = raised(NSet, [(1000 * at, step, 1000 * at) for at, step in enumerate(steps)])
            self.assertEqual(told, None if is_taken else LIMIT, steps)

    def test_sets_at_the_limit_against_all_numbers(self):
        some = [(11 * step, step, None if step % 2 else 40000) for step in (8, 9, 5, 7, 11)]
        made = NSet(some)
        row = [n for n in range(60000) if plain.in_rows(some, n)]
        for bound in [0, 1, 27720, 40000, 40001, 55440, 60000]:
            self.assertEqual(made.how_many(bound), len([n for n in row if n < bound]))
        for low in [0, 56, 27719, 27721, 40000, 40001, 55439]:
            self.assertEqual(made.least(low), next(n for n in row if n >= low))


class FarRows(unittest.TestCase):

    def test_at_the_ends(self):
        whole = NSet([(0, 1, None)])
        self.assertEqual([whole.has(FAR), whole.least(FAR), whole.how_many(FAR), whole.how_many(0)], [True, FAR, FAR, 0])
        last = NSet([(FAR, 1, FAR)])
        self.assertEqual([last.has(FAR), last.has(FAR - 1), last.has(0)], [True, False, False])
        self.assertEqual([last.least(), last.least(FAR), last.how_many(FAR), last.how_many(0)], [FAR, FAR, 0, 0])
        self.assertEqual(last.tail(), (FAR + 1, 1, []))
        first = NSet([(0, 100, 0)])
        self.assertEqual([first.has(0), first.has(100), first.least(1), first.how_many(1), first.how_many(FAR)], [True, False, None, 1, 1])

    def test_least_may_lie_beyond_far_numbers(self):
        self.assertEqual(NSet([(1, 100, None)]).least(FAR), FAR + 1)
        self.assertEqual(NSet([(99, 100, None)]).least(FAR), FAR + 99)
        self.assertEqual(NSet([(FAR, 7, None)]).least(FAR), FAR)
        self.assertIsNone(NSet([(99, 100, FAR)]).least(FAR))

    def test_far_rows(self):
        made = NSet([(10 ** 20 + 3, 7, 10 ** 25), (10 ** 22, 11, None), (5, 100, 5)])
        self.assertEqual([made.least(), made.least(6), made.least(10 ** 25)], [5, 10 ** 20 + 3, made.least(10 ** 25 - 1)])
        self.assertEqual(made.how_many(10 ** 20 + 3), 1)
        self.assertEqual(made.how_many(10 ** 20 + 4), 2)
        sevens, elevens = (10 ** 25 - 10 ** 20 - 3) // 7 + 1, (FAR - 1 - 10 ** 22) // 11 + 1
        start = next(n for n in range(10 ** 22, 10 ** 22 + 77) if (n - 10 ** 20 - 3) % 7 == 0 and (n - 10 ** 22) % 11 == 0)
        both = (10 ** 25 - start) // 77 + 1
        self.assertEqual(made.how_many(FAR), 1 + sevens + elevens - both)
        self.assertTrue(made.has(start))
        bound, period, residues = made.tail()
        self.assertEqual((period, residues), (11, [10 ** 22 % 11]))
        last = 10 ** 25 - (10 ** 25 - 10 ** 20 - 3) % 7
        self.assertEqual(bound, last + 1 if last % 11 != 10 ** 22 % 11 else bound)

    def test_rows_that_are_moved_far_away(self):
        rng = chosen.generator(172)
        for _ in range(100):
            some = rows(rng, 5)
            for by in [10 ** 12 + 7, FAR - 60]:
                made, far = NSet(some), NSet(moved(some, by))
                least = made.least()
                self.assertEqual(far.least(), None if least is None else least + by)
                for n in range(0, 60, 7):
                    self.assertEqual(far.has(by + n), made.has(n))
                    self.assertEqual(far.how_many(by + n), made.how_many(n))
                    least = made.least(n)
                    self.assertEqual(far.least(by + n), None if least is None else least + by)
                bound, period, residues = made.tail()
                told = far.tail()
                self.assertEqual(told[1:], (period, sorted((residue + by) % period for residue in residues)))
                # Ahead of the rows there are no numbers; a set that has just its tail from 0 on may begin earlier.
                if bound > 0:
                    self.assertEqual(told[0], bound + by)

    def test_answers_come_at_once(self):
        start = time.process_time()
        some = [(at * 10 ** 27, step, FAR - at * 10 ** 27) for at, step in enumerate((8, 9, 5, 7, 11) * 10)]
        made = NSet(some)
        other = complement(made)
        both = union(made, other)
        self.assertEqual(both, NSet([(0, 1, None)]))
        self.assertEqual(meet(made, other), NSet([]))
        self.assertEqual(made.how_many(FAR) + other.how_many(FAR), FAR)
        self.assertEqual(made.tail(), (made.tail()[0], 1, []))
        self.assertLess(time.process_time() - start, 5)


class Tails(unittest.TestCase):

    def test_by_words(self):
        for some, told in [
            ([], (0, 1, [])), ([(0, 1, None)], (0, 1, [0])), ([(5, 1, None)], (5, 1, [0])), ([(0, 1, 5)], (6, 1, [])),
            ([(0, 7, 20)], (15, 1, [])), ([(3, 5, None)], (0, 5, [3])), ([(8, 5, None)], (4, 5, [3])), ([(9, 5, None)], (5, 5, [4])),
            ([(5, 2, None)], (4, 2, [1])), ([(1, 2, None)], (0, 2, [1])), ([(0, 2, None), (1, 2, None)], (0, 1, [0])),
            ([(0, 2, None), (7, 2, None)], (6, 1, [0])), ([(0, 4, None), (2, 4, None)], (0, 2, [0])),
            ([(0, 4, None), (1, 6, None)], (0, 12, [0, 1, 4, 7, 8])), ([(0, 4, 100), (1, 6, None)], (101, 6, [1])),
            ([(0, 100, None)], (0, 100, [0])), ([(FAR, 100, None)], (FAR - 99, 100, [0])), ([(0, 2, None), (9, 3, 9)], (10, 2, [0])),
            ([(0, 3, None), (1, 3, None), (2, 3, 29), (2, 6, None), (5, 6, None)], (0, 1, [0])),
            ([(0, 6, None), (0, 4, None), (2, 12, None)], (0, 12, [0, 2, 4, 6, 8])), ([(FAR, 1, FAR), (0, 1, None)], (0, 1, [0])),
        ]:
            self.assertEqual(NSet(some).tail(), told, some)

    def test_against_all_numbers(self):
        rng = chosen.generator(173)
        for _ in range(300):
            some = rows(rng, 5, [1, 2, 3, 4, 6, 8, 12])
            bound, period, residues = NSet(some).tail()
            row = [plain.in_rows(some, n) for n in range(200)]
            self.assertEqual([n % period in residues for n in range(bound, 200)], row[bound:], some)
            self.assertEqual(residues, sorted(set(residues)))
            self.assertTrue(all(0 <= residue < period for residue in residues))
            if bound > 0:
                self.assertNotEqual((bound - 1) % period in residues, row[bound - 1], some)
            for less in range(1, period):
                self.assertNotEqual(row[100:150], row[100 + less:150 + less], (some, less))

    def test_of_many_steps(self):
        made = NSet([(0, step, None) for step in (8, 9, 5, 7, 11)])
        bound, period, residues = made.tail()
        self.assertEqual((bound, period), (0, 27720))
        self.assertEqual(residues, [n for n in range(27720) if any(n % step == 0 for step in (8, 9, 5, 7, 11))])
        self.assertEqual(union(made, NSet([(1, 1, None)])).tail(), (0, 1, [0]))

    def test_each_list_is_new(self):
        made = NSet([(0, 2, None), (1, 3, None)])
        first = made.tail()
        first[2].append(99)
        self.assertEqual(made.tail(), (0, 6, [0, 1, 2, 4]))
        self.assertTrue(made == NSet([(0, 2, None), (1, 6, None)]))


class Equality(unittest.TestCase):

    def test_the_same_numbers_written_otherwise(self):
        for one, other in [
            ([], []), ([(0, 2, None), (1, 2, None)], [(0, 1, None)]), ([(0, 5, 20)], [(0, 5, 24)]), ([(3, 7, 9)], [(3, 1, 3)]),
            ([(0, 4, None), (2, 4, None)], [(0, 2, None)]), ([(0, 1, 9), (10, 1, None)], [(0, 1, None)]), ([(0, 3, None)], [(0, 3, 8), (9, 3, None)]),
            ([(0, 3, FAR), (FAR - 1, 3, None)], [(0, 3, None)]), ([(5, 1, 5), (6, 1, 6)], [(5, 1, 6)]),
            ([(0, 100, 0)], [(0, 7, 6)]), ([(2, 12, None)] * 50, [(2, 12, None)]), ([(0, 1, 3)], [(at, 9, at) for at in (3, 1, 0, 2)]),
        ]:
            self.assertTrue(NSet(one) == NSet(other), (one, other))
            self.assertTrue(NSet(other) == NSet(one), (one, other))
            self.assertFalse(NSet(one) != NSet(other), (one, other))

    def test_other_numbers(self):
        for one, other in [
            ([], [(0, 1, 0)]), ([], [(FAR, 1, FAR)]), ([(0, 2, None)], [(0, 1, None)]), ([(0, 5, 20)], [(0, 5, 25)]), ([(0, 5, None)], [(0, 5, FAR)]),
            ([(0, 5, None)], [(5, 5, None)]), ([(0, 5, FAR)], [(0, 5, FAR - 1)]), ([(1, 2, None)], [(0, 2, None)]), ([(0, 3, None)], [(0, 6, None)]),
        ]:
            self.assertFalse(NSet(one) == NSet(other), (one, other))
            self.assertFalse(NSet(other) == NSet(one), (one, other))
            self.assertTrue(NSet(one) != NSet(other), (one, other))

    def test_against_all_numbers(self):
        rng = chosen.generator(174)
        same = 0
        for _ in range(1500):
            one, other = rows(rng, 2, [1, 2, 3], 4), rows(rng, 2, [1, 2, 3], 4)
            is_same = all(plain.in_rows(one, n) == plain.in_rows(other, n) for n in range(30))
            same += is_same
            self.assertIs(NSet(one) == NSet(other), is_same, (one, other))
        self.assertGreater(same, 100)

    def test_objects_of_other_classes(self):
        made = NSet([(3, 5, None)])
        for other in [None, [(3, 5, None)], ((3, 5, None),), 3, "NSet", NSet, object(), {3}, made.tail(), True]:
            self.assertIs(made == other, False)
            self.assertIs(other == made, False)
            self.assertIs(made != other, True)
        self.assertTrue(made == made)


class Pairs(unittest.TestCase):

    def test_against_all_numbers(self):
        rng = chosen.generator(175)
        for _ in range(150):
            one, other = rows(rng, 4), rows(rng, 4)
            first, second = NSet(one), NSet(other)
            row = set(numbers(lambda n: plain.in_rows(one, n)))
            its = set(numbers(lambda n: plain.in_rows(other, n)))
            for told, expected in [
                (union(first, second), row | its), (meet(first, second), row & its), (complement(first), set(range(END)) - row),
                (complement(union(first, second)), set(range(END)) - row - its), (meet(first, complement(second)), row - its),
            ]:
                self.assertIs(type(told), NSet)
                self.assertEqual(numbers(told.has), sorted(expected), (one, other))
                self.assertEqual(told.how_many(END), len(expected))
                if expected:
                    self.assertEqual(told.least(), min(expected))
            self.assertEqual(numbers(first.has), sorted(row))
            self.assertEqual(numbers(second.has), sorted(its))

    def test_laws(self):
        rng = chosen.generator(176)
        whole, none = NSet([(0, 1, None)]), NSet([])
        for _ in range(100):
            one, other = NSet(rows(rng, 4)), NSet(rows(rng, 4))
            self.assertEqual(union(one, complement(one)), whole)
            self.assertEqual(meet(one, complement(one)), none)
            self.assertEqual(complement(complement(one)), one)
            self.assertEqual(union(one, other), union(other, one))
            self.assertEqual(meet(one, other), meet(other, one))
            self.assertEqual(complement(union(one, other)), meet(complement(one), complement(other)))
            self.assertEqual(union(one, one), one)
            self.assertEqual(union(one, none), one)
            self.assertEqual(meet(one, whole), one)
            self.assertEqual(union(one, other).how_many(99) + meet(one, other).how_many(99), one.how_many(99) + other.how_many(99))

    def test_of_promise_25(self):
        for some in [[], [(0, 1, None)], [(3, 7, None)], [(3, 7, 90)], [(FAR, 1, FAR)], [(5, 12, None), (2, 11, FAR)]]:
            made = NSet(some)
            whole = union(made, complement(made))
            self.assertEqual(whole, NSet([(0, 1, None)]))
            self.assertEqual(whole.tail(), (0, 1, [0]))
            self.assertEqual(whole.how_many(FAR), FAR)
            self.assertEqual(made.how_many(FAR) + complement(made).how_many(FAR), FAR)

    def test_complements(self):
        self.assertEqual(complement(NSet([])).tail(), (0, 1, [0]))
        self.assertEqual(complement(NSet([(0, 1, None)])).tail(), (0, 1, []))
        self.assertEqual(complement(NSet([(3, 5, None)])).tail(), (0, 5, [0, 1, 2, 4]))
        self.assertEqual(complement(NSet([(0, 1, 9)])).tail(), (10, 1, [0]))
        self.assertEqual(complement(NSet([(FAR, 1, None)])).tail(), (FAR, 1, []))

    def test_the_limit_by_the_rows_of_both(self):
        one, other = NSet([(0, 99, None)]), NSet([(0, 98, None)])
        both = union(one, other)
        self.assertEqual(both.tail()[1], 9702)
        third = NSet([(0, 97, None)])
        for function in (union, meet):
            self.assertIsNone(raised(function, both, NSet([(0, 2, None)])))
            self.assertIsNone(raised(function, both, both))
            self.assertEqual(raised(function, both, third), LIMIT)
            self.assertEqual(raised(function, third, both), LIMIT)
            self.assertIsNone(raised(function, one, third))
        for one, other in [(both, third), (third, both), (complement(both), third), (meet(one, other), complement(third))]:
            self.assertEqual(raised(lambda: one == other), LIMIT)
            self.assertEqual(raised(lambda: one != other), LIMIT)

    def test_the_limit_is_of_all_rows_from_which_a_set_comes(self):
        # None of these has any number, or any step left, but they come from rows with these steps.
        none = meet(NSet([(0, 98, 0)]), NSet([(1, 99, 1)]))
        self.assertEqual(none.tail(), (0, 1, []))
        whole = union(NSet([(0, 99, None)]), complement(NSet([(0, 99, None)])))
        for made, other, is_limit in [
            (none, NSet([(0, 97, None)]), True), (none, NSet([(0, 97, 0)]), True), (none, NSet([(0, 49, None)]), False), (none, NSet([]), False),
            (whole, NSet([(0, 98, None)]), False), (whole, meet(NSet([(0, 98, 5)]), NSet([(0, 97, 5)])), True),
        ]:
            for told in [raised(union, made, other), raised(meet, other, made), raised(lambda: made == other), raised(union, complement(made), other)]:
                self.assertEqual(told, LIMIT if is_limit else None)

    def test_never_for_steps_up_to_twelve(self):
        rng = chosen.generator(177)
        made = NSet([])
        for _ in range(30):
            some = rows(rng, 8, list(range(1, 13)))
            made = rng.choice([union, meet])(rng.choice([made, complement(made)]), NSet(some))
            self.assertTrue(made == made)
            self.assertFalse(made == complement(made))

    def test_chains_against_all_numbers(self):
        rng = chosen.generator(178)
        for _ in range(30):
            some = rows(rng, 3)
            made, row = NSet(some), {n for n in range(END) if plain.in_rows(some, n)}
            for _ in range(6):
                some = rows(rng, 3)
                its = {n for n in range(END) if plain.in_rows(some, n)}
                if rng.random() < 0.3:
                    made, row = complement(made), set(range(END)) - row
                if rng.random() < 0.5:
                    made, row = union(made, NSet(some)), row | its
                else:
                    made, row = meet(made, NSet(some)), row & its
            self.assertEqual(numbers(made.has), sorted(row))
            self.assertEqual(made.how_many(300), len([n for n in row if n < 300]))
            for low in range(0, 100, 9):
                self.assertEqual(made.least(low), min([n for n in row if n >= low], default=made.least(low)))
            bound, period, residues = made.tail()
            self.assertEqual([n for n in range(bound, END) if n % period in residues], [n for n in sorted(row) if n >= bound])

    def test_sets_with_rows_far_away(self):
        one, other = NSet([(10 ** 20, 6, 10 ** 25)]), NSet([(10 ** 22, 10, None)])
        both = meet(one, other)
        start = next(n for n in range(10 ** 22, 10 ** 22 + 30) if (n - 10 ** 20) % 6 == 0 and (n - 10 ** 22) % 10 == 0)
        self.assertEqual(both.least(), start)
        self.assertEqual(both.how_many(FAR), (10 ** 25 - start) // 30 + 1)
        last = start + (10 ** 25 - start) // 30 * 30
        self.assertEqual(both.tail(), (last + 1, 1, []))
        self.assertEqual(union(one, other).least(), 10 ** 20)
        self.assertEqual(union(one, other).tail()[1:], (10, [0]))
        self.assertEqual(complement(one).least(10 ** 20), 10 ** 20 + 1)

    def test_nothing_is_kept(self):
        some = [(0, 2, None)]
        made = NSet(some)
        some.append((1, 2, None))
        self.assertFalse(made.has(1))
        other = union(made, NSet([(1, 4, None)]))
        self.assertFalse(made.has(1))
        self.assertTrue(other.has(1))


if __name__ == "__main__":
    unittest.main()
