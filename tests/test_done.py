"""Promises 31 and 32: contents behind assignments, and assignments that may change places."""

import itertools
import unittest

import chosen
import plain
from sectionwise.assigns import does, done, done_by, may_change_places
from sectionwise.errors import InvalidArgument, InvalidSection, LimitExceeded
from wrong import Own, raised

FAR = 10 ** 30
END = 5 * 10 ** 29
FORWARD = ((0, 1),)


def contents(bounds):
    return list(range(100, 100 + len(plain.array(bounds))))


def lengths(section):
    return tuple(len(plain.numbers(part)) for part in section if type(part) is not int)


def likely_pair(rng, bounds):
    """Two sections of an array, likely of one shape; the first one has no element twice."""
    other = chosen.section(rng, bounds, 60)
    if plain.elements(other) == []:
        return other, chosen.section(rng, bounds, 60)
    one = []
    for part, (low, high) in zip(other, bounds):
        many = len(plain.numbers(part))
        if type(part) is int:
            one.append(rng.randint(low, high))
        elif many <= high - low + 1 and rng.random() < 0.5:
            one.append(chosen.same_many(rng, low, high, many))
        elif many <= high - low + 1:
            one.append(rng.sample(range(low, high + 1), many))
        else:
            one.append(rng.randint(low, high))
    return tuple(one), other


class Done(unittest.TestCase):

    def test_against_all_elements(self):
        rng = chosen.generator(311)
        taken = 0
        for _ in range(600):
            bounds = chosen.bounds(rng, 3, 80)
            one, other = likely_pair(rng, bounds)
            told = contents(bounds)
            if lengths(one) != lengths(other):
                self.assertEqual(raised(done, bounds, one, other, told), (InvalidSection, "shape"))
                continue
            taken += 1
            self.assertEqual(done(bounds, one, other, told), plain.done(bounds, one, other, told), (bounds, one, other))
            self.assertEqual(told, contents(bounds))
        self.assertGreater(taken, 250)

    def test_by_words(self):
        bounds = ((1, 5),)
        for one, other, told in [
            (((1, 3, 1),), ((3, 5, 1),), "cdede"), (((3, 5, 1),), ((1, 3, 1),), "ababc"), (([1, 3, 5],), ([5, 5, 2],), "ebedb"),
            (([2, 1],), ((1, 2, 1),), "bacde"), ((3,), (5,), "abede"), (([],), ((9, 8, 1),), "abcde"), (((9, 8, 1),), ([],), "abcde"),
            (((5, 1, -1),), ((1, 5, 1),), "edcba"), (((1, 5, 4),), ([3, 3],), "cbcdc"), (([4],), ((2, 2, 1),), "abcbe"),
        ]:
            self.assertEqual("".join(done(bounds, one, other, "a b c d e".split())), told, (one, other))

    def test_other_parts_kept(self):
        bounds = ((1, 2), (1, 2), (1, 2))
        before = list("abcdefgh")
        # Of the first section the second part is kept, of the other one the first or the third one.
        self.assertEqual("".join(done(bounds, (1, (1, 2, 1), 2), ((1, 2, 1), 1, 1), before)), "abcdafbh")
        self.assertEqual("".join(done(bounds, (2, (2, 1, -1), 1), (1, 1, [1, 2]), before)), "aecaefgh")
        self.assertEqual("".join(done(bounds, ((1, 2, 1), 2, [2, 1]), (1, (1, 2, 1), (1, 2, 1)), before)), "abegefac")
        for one, other in [
            ((1, (1, 2, 1), 2), ((1, 2, 1), (1, 2, 1), 1)), (((1, 1, 1), (1, 2, 1), 2), (1, (1, 2, 1), 2)), ((1, 1, 1), ((1, 1, 1), 1, 1)),
            (((1, 1, 1), (1, 2, 1), 1), ((1, 2, 1), (1, 1, 1), 1)),
        ]:
            self.assertEqual(raised(done, bounds, one, other, before), (InvalidSection, "shape"))
            self.assertEqual(raised(done, bounds, other, one, before), (InvalidSection, "shape"))

    def test_any_objects_are_told_themselves(self):
        things = [[], {}, set(), Own(), None, float("nan"), [1], Own, (1, [2]), lambda: 1]
        bounds = ((0, 9),)
        for given in (things, tuple(things)):
            told = done(bounds, ((0, 8, 2),), ([9, 7, 5, 3, 3],), given)
            self.assertIs(type(told), list)
            self.assertIsNot(told, given)
            places = [9, 1, 7, 3, 5, 5, 3, 7, 3, 9]
            for place, source in enumerate(places):
                self.assertIs(told[place], things[source], place)
            again = done_by(bounds, ((0, 8, 1),), ((1, 9, 1),), FORWARD, given)
            self.assertIs(type(again), list)
            for place, thing in enumerate(again):
                self.assertIs(thing, things[min(9, place + 1)])
        self.assertEqual(len(things), 10)

    def test_nothing_to_do_is_a_new_list(self):
        given = [1, 2, 3]
        for one, other in [(([],), ([],)), (((1, 3, 1),), ((1, 3, 1),)), ((2,), (2,))]:
            told = done(((1, 3),), one, other, given)
            self.assertEqual(told, given)
            self.assertIsNot(told, given)
        told = done_by(((1, 3),), ((1, 0, 1),), ((1, 0, 1),), FORWARD, given)
        self.assertEqual(told, given)
        self.assertIsNot(told, given)
        self.assertEqual(done_by(((1, 3),), (2,), (3,), (), (7, 8, 9)), [7, 9, 9])
        self.assertEqual(done(((1, 0), (1, 3)), ((4, 3, 1), [9]), ([], (7, 7, 2)), ()), [])

    def test_an_element_twice(self):
        bounds, before = ((1, 3), (1, 2)), list(range(6))
        for one in [([1, 1], 1), ([1, 2, 1], (1, 2, 1)), ((1, 3, 1), [2, 2]), ([3, 3], [2])]:
            self.assertEqual(raised(done, bounds, one, one, before), (InvalidSection, "twice"))
            self.assertEqual(raised(done, bounds, one, (1, 1), before), (InvalidSection, "twice"))
            self.assertEqual(raised(done, bounds, one, (4, 1), before), (InvalidSection, "other"))
        # Twice on the right side, or in a section without elements, it is allowed.
        self.assertEqual(done(bounds, ((1, 2, 1), 1), ([3, 3], 2), before), [5, 5, 2, 3, 4, 5])
        self.assertEqual(done(bounds, ([9, 9], []), ([8, 8], (2, 1, 1)), before), before)
        self.assertEqual(raised(done, bounds, ([9, 9], []), ([8, 8], (2, 1, 2)), before), None)

    def test_how_many_elements_an_array_may_have(self):
        for bounds in [((1, 5000),), ((1, 50), (1, 100)), ((-10, 9), (0, 9), (5, 29))]:
            one = tuple((low, high, 1) for low, high in bounds)
            other = tuple((high, low, -1) for low, high in bounds)
            before = list(range(5000))
            self.assertEqual(done(bounds, one, other, before), before[::-1])
            order = tuple((loop, 1) for loop in range(len(bounds)))
            self.assertEqual(done_by(bounds, one, other, order, before), plain.done_by(bounds, one, other, order, before))
            for shorter in [before[:-1], before + [1], []]:
                self.assertEqual(raised(done, bounds, one, other, shorter), (InvalidArgument, "contents"))
                self.assertEqual(raised(done_by, bounds, one, other, order, shorter), (InvalidArgument, "contents"))
        for bounds in [((1, 5001),), ((1, 5000), (1, 2)), ((-END, END),)]:
            one = tuple(low for low, _ in bounds)
            for values in [list(range(5001)), None, [], list(range(10000))]:
                self.assertEqual(raised(done, bounds, one, one, values), (LimitExceeded, 5000))
                self.assertEqual(raised(done_by, bounds, one, one, (), values), (LimitExceeded, 5000))

    def test_errors_in_their_order(self):
        bounds = ((1, 5001),)
        for one, other, told in [
            (([1, 1],), ((1, 3, 1),), (InvalidSection, "twice")), (((1, 2, 1),), ((1, 3, 1),), (InvalidSection, "shape")),
            (((1, 3, 1),), ([1, 1, 1],), (LimitExceeded, 5000)), (((0, 3, 1),), ((0, 3, 1),), (InvalidSection, "one")),
            (([1, 1],), ((0, 3, 1),), (InvalidSection, "other")), (((1, 1, 1),), (1,), (InvalidSection, "shape")),
        ]:
            for values in [None, []]:
                self.assertEqual(raised(done, bounds, one, other, values), told)
                self.assertEqual(raised(done, ((1, 3),), one, other, values)[1], told[1] if told[1] != 5000 else "contents")
        for one, other, order, told in [
            (([1, 2],), ((1, 3, 1),), None, (InvalidSection, "list")), ((1,), ((1, 1, 1),), None, (InvalidSection, "kept")),
            (((1, 2, 1),), ((1, 3, 1),), None, (InvalidSection, "shape")), (((1, 3, 1),), ((1, 3, 1),), None, (InvalidArgument, "order")),
            (((1, 3, 1),), ((1, 3, 1),), FORWARD, (LimitExceeded, 5000)), (((1, 3, 1),), ((9, 3, 1),), None, (InvalidSection, "shape")),
        ]:
            self.assertEqual(raised(done_by, bounds, one, other, order, None), told)
        self.assertEqual(raised(done_by, ((1, 3),), ((1, 3, 1),), ((1, 3, 1),), FORWARD, None), (InvalidArgument, "contents"))

    def test_contents_that_are_none(self):
        bounds, one = ((1, 2), (0, 1)), ((1, 2, 1), 1)
        for values in [
            [1, 2, 3], [1, 2, 3, 4, 5], (1, 2, 3), [], (), "abcd", {1: 1, 2: 2, 3: 3, 4: 4}, {1, 2, 3, 4}, range(4), iter([1, 2, 3, 4]),
            b"abcd", None, 4,
        ]:
            self.assertEqual(raised(done, bounds, one, one, values), (InvalidArgument, "contents"))
            self.assertEqual(raised(done_by, bounds, one, one, FORWARD, values), (InvalidArgument, "contents"))
        self.assertEqual(done(bounds, one, one, [True, None, 1.5, "x"]), [True, None, 1.5, "x"])

    def test_sections_without_elements_may_be_far(self):
        bounds, before = ((1, 3), (1, 2)), list(range(6))
        one, other = ((-FAR, FAR, 1), (1, 0, 1)), ((FAR, -FAR, -1), (7, 6, 1))
        self.assertEqual(done(bounds, one, other, before), before)
        for order in plain.orders(2):
            self.assertEqual(done_by(bounds, one, other, order, before), before)


class DoneByLoops(unittest.TestCase):

    def test_against_all_elements(self):
        rng = chosen.generator(312)
        unlike = 0
        for _ in range(250):
            bounds, one, other = chosen.assignment(rng, 3, (1, 2, 3, 4, 5))
            before = contents(bounds)
            for order in plain.orders(len(lengths(one))):
                told = done_by(bounds, one, other, order, before)
                self.assertEqual(told, plain.done_by(bounds, one, other, order, before), (bounds, one, other, order))
                self.assertEqual(done_by(bounds, one, other, order, tuple(before)), told)
                # It leads to what the assignment leads to just if no element is read behind its write.
                is_done = told == done(bounds, one, other, before)
                self.assertIs(does(bounds, one, other, order), is_done, (bounds, one, other, order))
                unlike += not is_done
            self.assertEqual(before, contents(bounds))
        self.assertGreater(unlike, 200)

    def test_four_loops(self):
        rng = chosen.generator(313)
        for _ in range(8):
            bounds, one, other = chosen.assignment(rng, 4, (2, 3))
            before = contents(bounds)
            for order in plain.orders(len(lengths(one))):
                self.assertEqual(done_by(bounds, one, other, order, before), plain.done_by(bounds, one, other, order, before))


class ChangingPlaces(unittest.TestCase):

    def test_against_all_elements(self):
        rng = chosen.generator(321)
        may, taken = 0, 0
        for _ in range(900):
            bounds = chosen.bounds(rng, 2, 60)
            first, last = likely_pair(rng, bounds), likely_pair(rng, bounds)
            if lengths(first[0]) != lengths(first[1]):
                self.assertEqual(raised(may_change_places, bounds, first, last), (InvalidArgument, "first"))
                continue
            if lengths(last[0]) != lengths(last[1]):
                self.assertEqual(raised(may_change_places, bounds, first, last), (InvalidArgument, "last"))
                continue
            written, its = set(plain.elements(first[0])), set(plain.elements(last[0]))
            told = not (written & its or written & set(plain.elements(last[1])) or its & set(plain.elements(first[1])))
            self.assertIs(may_change_places(bounds, first, last), told, (bounds, first, last))
            self.assertIs(may_change_places(bounds, last, first), told)
            taken += 1
            may += told
            before = contents(bounds)
            if told:
                one_way = done(bounds, *last, done(bounds, *first, before))
                self.assertEqual(one_way, done(bounds, *first, done(bounds, *last, before)))
        self.assertGreater(taken, 300)
        self.assertGreater(may, 80)
        self.assertGreater(taken - may, 80)

    def test_by_words(self):
        bounds = ((1, 9),)
        for first, last, told in [
            (((1,), (2,)), ((3,), (2,)), True), (((1,), (2,)), ((2,), (3,)), False), (((2,), (3,)), ((1,), (2,)), False), (((1,), (2,)), ((1,), (3,)), False),
            (((1,), (1,)), ((1,), (1,)), False), (((1,), (1,)), ((2,), (2,)), True), ((([],), ([],)), (([1],), ([2],)), True),
            ((([1, 2],), ([3, 3],)), (([4, 5],), ([3, 3],)), True), ((([1, 2],), ([3, 3],)), (((3, 4, 1),), ([5, 5],)), False),
            (((9, 8, 1),), ((1,), (2,)), None), (((1,), (2,)), ((1,), (2,), (3,)), None),
        ]:
            if told is None:
                self.assertEqual(raised(may_change_places, bounds, first, last)[0], InvalidArgument)
            else:
                self.assertIs(may_change_places(bounds, first, last), told, (first, last))

    def test_far_ones(self):
        bounds = ((-END, END),) * 2
        odd, even = ((-END + 1, END, 2), (0, END, 1)), ((-END, END - 1, 2), (0, END, 1))
        self.assertIs(may_change_places(bounds, (odd, odd), (even, even)), True)
        self.assertIs(may_change_places(bounds, (odd, even), (even, even)), False)
        self.assertIs(may_change_places(bounds, (odd, odd), (even, odd)), False)
        self.assertIs(may_change_places(bounds, (odd, odd), (odd, odd)), False)
        self.assertIs(may_change_places(bounds, (odd, odd), (([-END, 2], [1]), ([4, 4], [2]))), True)
        self.assertIs(may_change_places(bounds, (odd, odd), (([-END, 2], [1]), ([4, 5], [2]))), False)

    def test_what_is_no_assignment(self):
        bounds, one = ((1, 5), (1, 3)), ((1, 2, 1), 1)
        right = (one, one)
        for value in [
            None, [one, one], (one,), (one, one, one), (one, None), (None, one), (([1, 1], 1), one), (one, ((1, 3, 1), 1)), (one, (1, 1)),
            (((1, 6, 1), 1), ((1, 6, 1), 1)), (one, ((1, 6, 5), (1, 1, 1))), ((True, 1), (1, 1)), ((1, 1), (1, True)), ((1,), (1,)), (), "ab", {1: 1},
        ]:
            self.assertEqual(raised(may_change_places, bounds, value, right), (InvalidArgument, "first"), value)
            self.assertEqual(raised(may_change_places, bounds, right, value), (InvalidArgument, "last"), value)
            self.assertEqual(raised(may_change_places, bounds, value, value), (InvalidArgument, "first"), value)
            self.assertEqual(raised(may_change_places, None, value, value), (InvalidSection, "bounds"), value)
        for value in [(one, ([3, 3], 1)), (([], 1), ((7, 6, 1), 9)), ((1, 1), (5, 3)), (([2, 2], []), ([1, 1], (1, 0, 1)))]:
            self.assertIsNone(raised(may_change_places, bounds, value, right))
            self.assertIsNone(raised(may_change_places, bounds, right, value))

    def test_pairs_of_small_sections(self):
        bounds = ((0, 4),)
        some = [((0, 1, 1),), ((1, 2, 1),), ((4, 3, -1),), ([4, 0],), ((0, 4, 4),), ((2, 3, 1),)]
        for a, b, c, d in itertools.product(some, some, some, some):
            first, last = set(plain.elements(a)), set(plain.elements(c))
            told = not (first & last or first & set(plain.elements(d)) or last & set(plain.elements(b)))
            self.assertIs(may_change_places(bounds, (a, b), (c, d)), told)


if __name__ == "__main__":
    unittest.main()
