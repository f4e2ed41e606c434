"""Promises 21 to 25: what two families share at n, assignments that clash, and those that may change places."""

import itertools
import unittest

import chosen
import copied
from sectionwise import clashes as module
from sectionwise.clashes import clashes, first_clash, inside, least_shared, may_swap, needs_copy, shares
from sectionwise.errors import InvalidArgument
from sectionwise.families import Family, alike_sizes, same_elements, same_sequence
from sectionwise.nsets import NSet, complement, meet, union
from wrong import raised

FAR = 10 ** 30
ORDERS = ("forward", "backward")
NEVER, ALWAYS = NSet([]), NSet([(0, 1, None)])
UP, NEXT, TURNED = Family((1, 0), (0, 1), 1), Family((2, 0), (1, 1), 1), Family((0, 1), (1, 0), -1)


class LeastShared(unittest.TestCase):

    def test_against_all_elements(self):
        rng = chosen.generator(211)
        for _ in range(400):
            one, other = copied.pair(rng)
            for n in list(range(25)) + [rng.randint(25, 150)]:
                both = set(copied.row(one, n)) & set(copied.row(other, n))
                self.assertEqual(least_shared(one, other, n), min(both) if both else None, (vars(one), vars(other), n))

    def test_far(self):
        one, other = Family((0, 0), (0, 1), 4), Family((3, 0), (0, 5), 7)
        self.assertEqual([least_shared(one, other, n) for n in (0, 23, 24, FAR)], [None, None, 24, 24])
        one, other = Family((0, 10 ** 6), (0, 1), -6), Family((1, 1), (0, 1000), 4)
        for n in (FAR, FAR - 1, FAR - 2):
            # The elements of one are even; those of the other are odd where n is even.
            told = least_shared(one, other, n)
            if n % 2 == 0:
                self.assertIsNone(told)
            else:
                self.assertEqual([(10 ** 6 * n - told) % 6, (told - 1 - n) % 4, n + 1 <= told <= n + 12], [0, 0, True])
        self.assertEqual(least_shared(Family((0, 3), (0, 3), 5), Family((0, 0), (0, 3), 1), FAR), 3 * FAR)
        self.assertIsNone(least_shared(Family((0, 2), (0, 4), 2), Family((1, 2), (1, 4), 2), FAR))

    def test_n_goes_just_so_far(self):
        for n in [0, FAR]:
            self.assertIsNone(raised(least_shared, UP, NEXT, n))
        for n in [-1, FAR + 1, True, False, 1.0, None]:
            self.assertEqual(raised(least_shared, UP, NEXT, n), (InvalidArgument, "n"))
            self.assertEqual(raised(least_shared, UP, None, n), (InvalidArgument, "other"))
            self.assertEqual(raised(least_shared, 1, None, n), (InvalidArgument, "one"))


class Clashes(unittest.TestCase):

    def test_by_words(self):
        for one, other, forward, backward in [
            (UP, UP, NEVER, NEVER), (UP, NEXT, NEVER, NSet([(2, 1, None)])), (NEXT, UP, NSet([(2, 1, None)]), NEVER),
            (UP, TURNED, NSet([(2, 1, None)]), NSet([(2, 1, None)])),
            (UP, Family((9, 0), (8, 1), 1), NEVER, NSet([(9, 1, None)])),
            (UP, Family((1, 0), (0, 2), 1), NEVER, NEVER),
            # Sizes alike at 9 only.
            (Family((2, 0), (10, 0), 1), UP, NSet([(9, 1, 9)]), NEVER),
            (Family((0, 0), (0, 2), 2), Family((0, 0), (0, 1), 1), NSet([(2, 1, None)]), NEVER),
            (Family((0, 0), (0, 1), 1), Family((0, 0), (0, 2), 2), NEVER, NSet([(2, 1, None)])),
        ]:
            self.assertEqual(clashes(one, other, "forward"), forward, (vars(one), vars(other)))
            self.assertEqual(clashes(one, other, "backward"), backward, (vars(one), vars(other)))

    def check(self, one, other, some):
        told = {order: clashes(one, other, order) for order in ORDERS}
        both = needs_copy(one, other)
        for n in some:
            row, its = copied.row(one, n), copied.row(other, n)
            with self.subTest(one=vars(one), other=vars(other), n=n):
                for order in ORDERS:
                    clash = copied.first_clash(row, its, order)
                    self.assertIs(told[order].has(n), clash is not None)
                    self.assertEqual(first_clash(one, other, n, order), clash)
                self.assertIs(both.has(n), copied.needs_copy(row, its))
        for made in [both] + list(told.values()):
            self.assertIs(type(made), NSet)

    def test_against_copies_one_by_one(self):
        rng = chosen.generator(221)
        for _ in range(250):
            one, other = copied.pair(rng)
            self.check(one, other, list(range(40)) + [rng.randint(40, 150)])

    def test_of_families_of_alike_sizes(self):
        rng = chosen.generator(222)
        for _ in range(250):
            step = rng.choice(copied.SOME_STEPS + [4, 5])
            begin, slope, many = rng.randint(-9, 9), rng.randint(-2, 2), (rng.randint(-2, 9), rng.choice([0, 1, 1, 2]))
            families = []
            for sign in [1, rng.choice([1, -1])]:
                first = (begin + rng.randint(-6, 6), slope + rng.randint(-1, 1))
                by = sign * rng.choice([step, step, rng.choice(copied.SOME_STEPS)])
                last = (first[0] + by * many[0], first[1] + by * many[1])
                families.append(Family(first, last, by) if rng.random() < 0.7 else Family(last, first, -by))
            self.check(families[0], families[1], range(30))

    def test_at_far_n(self):
        rng = chosen.generator(223)
        for _ in range(150):
            one, other, n = copied.far_pair(rng)
            self.check(one, other, [0, 1, rng.randint(0, 10 ** 9)] + list(range(n - 25, n + 26)))

    def test_what_is_told_just_where_it_clashes(self):
        rng = chosen.generator(224)
        for _ in range(200):
            one, other = copied.pair(rng)
            for order in ORDERS:
                told = clashes(one, other, order)
                for n in [0, 7, 10 ** 6, 10 ** 15, FAR - 1, FAR] + [rng.randint(0, FAR) for _ in range(3)]:
                    self.assertIs(told.has(n), first_clash(one, other, n, order) is not None)

    def test_sizes_that_are_unlike(self):
        one, other = Family((2, 0), (0, 1), 1), Family((1, 0), (0, 1), 1)
        for order in ORDERS:
            self.assertEqual(clashes(one, other, order), NEVER)
            for n in [0, 1, 2, 3, 9, FAR]:
                self.assertIsNone(first_clash(one, other, n, order))
        self.assertEqual(needs_copy(one, other), NEVER)


class FirstClash(unittest.TestCase):

    def test_by_words(self):
        for one, other, n, order, told in [
            (NEXT, UP, 5, "forward", (2, 0, 1)), (NEXT, UP, 5, "backward", None), (UP, NEXT, 5, "backward", (5, 4, 3)),
            (UP, TURNED, 5, "forward", (2, 1, 3)), (UP, TURNED, 5, "backward", (4, 3, 1)), (UP, TURNED, 4, "forward", (2, 1, 2)),
            (UP, TURNED, 4, "backward", (3, 2, 1)), (UP, TURNED, 1, "forward", None), (UP, UP, 5, "forward", None),
            (NEXT, UP, 1, "forward", None), (NEXT, UP, 2, "forward", (2, 0, 1)), (NEXT, UP, 0, "forward", None),
            (Family((0, 0), (8, 0), 2), Family((1, 0), (5, 0), 1), 3, "forward", (4, 2, 3)),
            (Family((0, 0), (8, 0), 2), Family((1, 0), (5, 0), 1), 3, "backward", None),
        ]:
            self.assertEqual(first_clash(one, other, n, order), told, (vars(one), vars(other), n, order))

    def test_far(self):
        for n in (FAR, FAR - 1):
            self.assertEqual(first_clash(NEXT, UP, n, "forward"), (2, 0, 1))
            self.assertEqual(first_clash(UP, NEXT, n, "backward"), (n, n - 1, n - 2))
            # Element k of the one is k + 1, element j of the turned one n - j.
            half = (n + 1) // 2
            self.assertEqual(first_clash(UP, TURNED, n, "forward"), (n - half, n - half - 1, half))
            half = n // 2 - 1
            self.assertEqual(first_clash(UP, TURNED, n, "backward"), (n - half, n - half - 1, half))

    def test_n_and_orders_go_just_so_far(self):
        for order in ORDERS:
            for n in [0, FAR]:
                self.assertIsNone(raised(first_clash, UP, NEXT, n, order))
            for n in [-1, FAR + 1, True, False, 1.0, None]:
                self.assertEqual(raised(first_clash, UP, NEXT, n, order), (InvalidArgument, "n"))
        for order in ["", "Forward", "forward ", b"forward", "for", None, 1, -1, True, ["forward"], {"forward": 1}, ("forward",), []]:
            self.assertEqual(raised(first_clash, UP, NEXT, 5, order), (InvalidArgument, "order"))
            self.assertEqual(raised(first_clash, UP, NEXT, -1, order), (InvalidArgument, "n"))
            self.assertEqual(raised(clashes, UP, NEXT, order), (InvalidArgument, "order"))
            self.assertEqual(raised(clashes, UP, 5, order), (InvalidArgument, "other"))


class MaySwap(unittest.TestCase):

    def check(self, first, last, some):
        told = may_swap(first, last)
        self.assertIs(type(told), NSet)
        for n in some:
            self.assertIs(told.has(n), copied.may_swap(first, last, n), (first, last, n))

    def test_against_all_elements(self):
        rng = chosen.generator(241)
        for _ in range(250):
            one, other = copied.pair(rng)
            families = [one, other, copied.moved(rng, one), copied.family(rng)]
            rng.shuffle(families)
            names = [rng.choice("ab") for _ in range(4)]
            first, last = (names[0], families[0], names[1], families[1]), (names[2], families[2], names[3], families[3])
            self.check(first, last, list(range(35)) + [rng.randint(35, 120)])

    def test_names(self):
        for names in itertools.product("ab", repeat=4):
            first, last = (names[0], UP, names[1], UP), (names[2], UP, names[3], UP)
            is_apart = names[0] not in names[2:] and names[2] != names[1]
            # At 0 there are no elements.
            self.assertEqual(may_swap(first, last), ALWAYS if is_apart else NSet([(0, 1, 0)]), names)

    def test_each_way_in_which_two_may_meet(self):
        here, there = Family((1, 0), (3, 0), 1), Family((3, 0), (0, 1), 1)
        away, other = Family((-9, 0), (-7, 0), 1), Family((-20, 0), (-15, 0), 1)
        met = NSet([(0, 1, 2)])
        for first, last, told in [
            (("a", here, "a", away), ("a", there, "a", other), met), (("a", here, "a", away), ("a", other, "a", there), met),
            (("a", away, "a", here), ("a", there, "a", other), met), (("a", away, "a", here), ("a", other, "a", there), ALWAYS),
            (("a", here, "a", there), ("a", away, "a", other), ALWAYS), (("a", here, "b", away), ("b", there, "b", other), ALWAYS),
            (("a", here, "b", there), ("b", other, "a", away), ALWAYS), (("a", here, "b", away), ("b", other, "a", there), met),
            (("a", other, "b", here), ("b", there, "a", away), met),
        ]:
            self.assertEqual(may_swap(first, last), told, (first, last))
            self.assertEqual(may_swap(last, first), told, (first, last))

    def test_without_elements_and_of_unlike_sizes(self):
        none = Family((1, 0), (0, 0), 1)
        self.assertEqual(may_swap(("a", none, "a", UP), ("a", UP, "a", none)), NSet([(0, 1, 0)]))
        self.assertEqual(may_swap(("a", none, "a", UP), ("a", none, "a", UP)), ALWAYS)
        self.assertEqual(may_swap(("a", Family((0, 0), (0, 0), 1), "a", Family((5, 0), (9, 0), 1)), ("a", UP, "b", UP)), NSet([(0, 1, 4)]))

    def test_any_texts_are_names(self):
        for name in ["", "a b", "A" * 100, "1", "\n"]:
            self.assertEqual(may_swap((name, UP, name, UP), (name, UP, name, UP)), NSet([(0, 1, 0)]))
            self.assertEqual(may_swap((name, UP, name, UP), (name + "x", UP, name + "y", UP)), ALWAYS)

    def test_wrong_tuples(self):
        right = ("a", UP, "b", NEXT)
        self.assertIsNone(raised(may_swap, right, right))
        for wrong in [
            right[:3], right + ("a",), (), list(right), (1, UP, "b", NEXT), ("a", UP, 1, NEXT), ("a", None, "b", NEXT), ("a", UP, "b", (1, 2, 1)),
            (b"a", UP, "b", NEXT), ("a", UP, b"b", NEXT), ("a", Family, "b", NEXT), ("a", UP, "b", Family), ("a", NEVER, "b", NEXT),
            (None, UP, "b", NEXT), (["a"], UP, "b", NEXT), (UP, "a", NEXT, "b"), "abcd", None, 4, {0: "a", 1: UP, 2: "b", 3: NEXT},
        ]:
            self.assertEqual(raised(may_swap, wrong, right), (InvalidArgument, "first"))
            self.assertEqual(raised(may_swap, right, wrong), (InvalidArgument, "last"))
            self.assertEqual(raised(may_swap, wrong, wrong), (InvalidArgument, "first"))


class Facts(unittest.TestCase):

    def test_of_25(self):
        rng = chosen.generator(251)
        for _ in range(120):
            one, other = copied.pair(rng)
            self.assertEqual(shares(one, other), shares(other, one))
            self.assertEqual(alike_sizes(one, other), alike_sizes(other, one))
            self.assertEqual(meet(inside(one, other), inside(other, one)), same_elements(one, other))
            self.assertEqual(meet(same_sequence(one, other), same_elements(one, other)), same_sequence(one, other))
            self.assertEqual(meet(inside(one, other), complement(shares(one, other))), meet(inside(one, Family((1, 0), (0, 0), 1)), ALWAYS))
            for order in ORDERS:
                self.assertEqual(meet(clashes(one, other, order), shares(one, other)), clashes(one, other, order))
                self.assertEqual(meet(clashes(one, other, order), alike_sizes(one, other)), clashes(one, other, order))
            self.assertEqual(needs_copy(one, other), meet(clashes(one, other, "forward"), clashes(one, other, "backward")))
            told = clashes(one, other, "forward")
            self.assertEqual(union(told, complement(told)), ALWAYS)

    def test_what_does_not_clash_is_done_without_a_copy(self):
        rng = chosen.generator(252)
        for _ in range(200):
            one, other = copied.pair(rng)
            for n in range(0, 20, 3):
                row, its = copied.row(one, n), copied.row(other, n)
                if len(row) != len(its):
                    continue
                for order, way in (("forward", 1), ("backward", -1)):
                    contents = {element: element for element in row + its}
                    for write, read in list(zip(row, its))[::way]:
                        contents[write] = contents[read]
                    is_done = all(contents[write] == read for write, read in zip(row, its))
                    self.assertIs(is_done, not clashes(one, other, order).has(n))

    def test_examples(self):
        self.assertEqual([clashes(UP, NEXT, "forward").least(), clashes(NEXT, UP, "forward").least()], [None, 2])
        self.assertEqual(first_clash(NEXT, UP, 5, "forward"), (2, 0, 1))
        self.assertEqual(needs_copy(UP, TURNED).tail(), (2, 1, [0]))
        self.assertEqual(shares(Family((0, 0), (0, 2), 4), Family((1, 1), (0, 5), 6)).tail(), (6, 2, [1]))

    def test_defined_where_the_interface_lists_them(self):
        for name in "shares inside least_shared clashes needs_copy first_clash may_swap".split():
            self.assertEqual(getattr(module, name).__module__, "sectionwise.clashes")


if __name__ == "__main__":
    unittest.main()
