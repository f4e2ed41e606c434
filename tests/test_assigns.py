"""Promises 26 to 29, and the examples of 32 on them."""

import itertools
import unittest

import chosen
import plain
from sectionwise.assigns import clash, copy_needed, does, done, done_by, good_orders, signs
from sectionwise.errors import InvalidArgument, InvalidSection
from wrong import raised

FAR = 10 ** 30
END = 5 * 10 ** 29
FORWARD, BACKWARD = ((0, 1),), ((0, -1),)


class Examples(unittest.TestCase):

    def test_of_promise_32(self):
        b, one, other = ((1, 9),), ((2, 9, 1),), ((1, 8, 1),)
        self.assertEqual(
            [does(b, one, other, ((0, 1),)), clash(b, one, other, ((0, 1),)), good_orders(b, one, other)],
            [False, ((2,), (0,), (1,)), [((0, -1),)]],
        )
        c, up, turn = ((1, 5),), ((1, 5, 1),), ((5, 1, -1),)
        self.assertEqual(
            [copy_needed(c, up, turn), signs(c, up, turn), clash(c, up, turn, ((0, 1),))],
            [True, [(-1, 0, 1)], ((2,), (1,), (3,))],
        )
        self.assertEqual(
            [done(c, up, turn, [1, 2, 3, 4, 5]), done_by(c, up, turn, ((0, 1),), [1, 2, 3, 4, 5])],
            [[5, 4, 3, 2, 1], [5, 4, 3, 4, 5]],
        )


class SmallSections(unittest.TestCase):

    def check(self, bounds, one, other):
        told_signs = plain.signs(one, other)
        self.assertEqual(signs(bounds, one, other), told_signs, (bounds, one, other))
        for order in plain.orders(len(told_signs)):
            told = plain.clash(one, other, order)
            self.assertEqual(clash(bounds, one, other, order), told, (bounds, one, other, order))
            self.assertIs(does(bounds, one, other, order), told is None, (bounds, one, other, order))

    def test_of_one_dimension(self):
        bounds = ((1, 8),)
        parts = {}
        for first, last, step in itertools.product(range(1, 9), range(1, 9), (-5, -3, -2, -1, 1, 2, 3)):
            part = (first, last, step)
            row = tuple(plain.numbers(part))
            if len(row) < 5:
                parts.setdefault(row, part)
        by_many = {}
        for row, part in parts.items():
            by_many.setdefault(len(row), []).append(part)
        self.assertEqual(sorted(by_many), [0, 1, 2, 3, 4])
        for some in by_many.values():
            for one, other in itertools.product(some, some):
                self.check(bounds, (one,), (other,))

    def test_of_long_parts(self):
        rng = chosen.generator(261)
        for _ in range(400):
            many = rng.randint(5, 40)
            bounds = ((0, rng.choice([many, 3 * many, 130])),)
            self.check(bounds, (chosen.same_many(rng, *bounds[0], many),), (chosen.same_many(rng, *bounds[0], many),))

    def test_of_several_dimensions(self):
        rng = chosen.generator(262)
        for _ in range(500):
            self.check(*chosen.assignment(rng, 3))

    def test_of_four_loops(self):
        rng = chosen.generator(263)
        for _ in range(12):
            self.check(*chosen.assignment(rng, 4, (1, 2, 3)))

    def test_neighbours_in_two_dimensions(self):
        bounds = ((0, 6), (0, 6))
        one = ((2, 4, 1), (2, 4, 1))
        for by, to in itertools.product((-2, -1, 0, 1, 2, 3), (-2, -1, 0, 1, 2, 3)):
            if by < 3 and to < 3:
                self.check(bounds, one, ((2 + by, 4 + by, 1), (2 + to, 4 + to, 1)))
                self.check(bounds, one, ((4 + by, 2 + by, -1), (2 + to, 4 + to, 1)))
                self.check(bounds, ((2, 4, 1), (4, 2, -1)), ((4 + by, 2 + by, -1), (2 + to, 4 + to, 1)))

    def test_parts_that_are_integers(self):
        bounds = ((1, 5), (1, 3))
        for at, its in itertools.product((1, 2, 3), (1, 2, 3)):
            one, other = ((1, 4, 1), at), ((2, 5, 1), its)
            self.check(bounds, other, one)
            self.assertEqual(signs(bounds, other, one), [(-1,) if at == its else ()])
            self.assertIs(does(bounds, other, one, FORWARD), at != its)
            self.assertIs(does(bounds, other, one, BACKWARD), True)
            self.assertEqual(clash(bounds, other, one, FORWARD), ((2, at), (0,), (1,)) if at == its else None)

    def test_no_part_kept(self):
        bounds = ((1, 5), (1, 3))
        for one, other in [((1, 2), (1, 2)), ((1, 2), (3, 2)), ((5, 3), (1, 1))]:
            self.assertEqual(signs(bounds, one, other), [])
            self.assertIs(does(bounds, one, other, ()), True)
            self.assertIsNone(clash(bounds, one, other, ()))

    def test_without_elements(self):
        bounds = ((1, 5), (1, 3))
        one, other = ((9, 8, 1), (-FAR, FAR, 1)), ((2, 3, -1), (FAR, -FAR, -1))
        self.assertEqual(signs(bounds, one, other), [(), ()])
        for order in plain.orders(2):
            self.assertIs(does(bounds, one, other, order), True)
            self.assertIsNone(clash(bounds, one, other, order))
        # The numbers of subscripts are still to be the same, and an integer need not lie in the array.
        self.assertEqual(raised(signs, bounds, one, ((2, 3, -1), (1, 3, 1))), (InvalidSection, "shape"))
        self.assertEqual(signs(bounds, (77, (1, 0, 1)), (-77, (9, 0, 1))), [()])
        self.assertEqual(signs(((1, 0),), ((1, 0, 1),), ((5, 6, -1),)), [()])

    def test_single_elements_with_any_steps(self):
        bounds = ((1, 9),)
        for one, other, told in [
            ((3, 3, 1), (3, 3, -1), [(0,)]), ((3, 3, 7), (3, 8, 9), [(0,)]), ((3, 3, 7), (4, 8, 9), [()]), ((3, 1, -9), (3, 8, 9), [(0,)]),
        ]:
            self.assertEqual(signs(bounds, (one,), (other,)), told)
            self.assertTrue(does(bounds, (one,), (other,), FORWARD))
        # One subscript is shared, with all steps.
        for one, other, told in [
            ((1, 7, 2), (3, 9, 3), (-1, 0, 1)), ((1, 5, 2), (5, 9, 2), (1,)), ((9, 5, -2), (5, 1, -2), (1,)), ((1, 5, 2), (9, 5, -2), (0,)),
        ]:
            row, its = plain.numbers(one), plain.numbers(other)
            if len(row) == len(its):
                self.check(bounds, (one,), (other,))
                self.assertEqual(signs(bounds, (one,), (other,)), [told])


class Errors(unittest.TestCase):

    bounds = ((1, 5), (1, 3))
    one = ((1, 2, 1), 1)

    def test_in_their_order(self):
        for one, other, part in [
            (([1, 2], 1), ((1, 2, 1), 1), "list"), (((1, 2, 1), 1), ([1, 2], 1), "list"), (((1, 2, 1), [1]), ((1, 2, 1), 1), "list"),
            (([], 1), ((1, 0, 1), 1), "list"), (([1, 2], 1), (1, (1, 3, 1)), "list"), ((1, [1]), (1, [1]), "list"),
            (((1, 2, 1), 1), (1, (1, 2, 1)), "kept"), (((1, 2, 1), 1), ((1, 2, 1), (1, 1, 1)), "kept"), ((1, 1), ((1, 1, 1), 1), "kept"),
            (((1, 2, 1), 1), (1, (1, 3, 1)), "kept"), (((1, 2, 1), 1), ((1, 3, 1), 1), "shape"), (((1, 1, 1), 1), ((1, 0, 1), 1), "shape"),
            (((1, 2, 1), (1, 3, 1)), ((1, 3, 1), (1, 2, 1)), "shape"), (((1, 0, 1), (1, 3, 1)), ((1, 0, 1), (1, 2, 1)), "shape"),
            (((1, 5, 1), (1, 3, 1)), ((1, 5, 1), (1, 3, 2)), "shape"), (((1, 6, 1), 1), ((1, 6, 1), 1), "one"), (((1, 5, 1), 1), ((1, 6, 1), [1]), "other"),
        ]:
            self.assertEqual(raised(signs, self.bounds, one, other), (InvalidSection, part), (one, other))
            for order in [((0, 1),), None]:
                for function in (does, clash):
                    self.assertEqual(raised(function, self.bounds, one, other, order), (InvalidSection, part), (one, other))

    def test_orders_that_are_none(self):
        for order in [
            (), [], [(0, 1)], ([0, 1],), ((1, 1),), ((-1, 1),), ((0, 0),), ((0, 2),), ((0, -2),), ((0, 1), (0, 1)), ((0, 1), (1, 1)), ((0, 1, 1),),
            ((0,),), (0, 1), ((False, 1),), ((0, True),), (("0", 1),), ((0, None),), ((0, 1.0),), ((0.0, 1),), None, "0", {0: 1}, ((0, 1), ()), (((0, 1),),),
        ]:
            for function in (does, clash):
                self.assertEqual(raised(function, self.bounds, self.one, self.one, order), (InvalidArgument, "order"), order)
        whole = ((1, 2, 1), (1, 3, 1))
        for order in [
            ((0, 1),), ((0, 1), (0, -1)), ((1, 1), (1, 1)), ((0, 1), (2, 1)), ((0, 1), (1, 1), (0, 1)), ((0, 1), (True, 1)), ((0, 1), [1, 1]),
            ((1, 1), (0, 3)), ((0, 1), (-1, 1)), ((0, 1), (1, 1), (2, 1)), [(0, 1), (1, 1)],
        ]:
            self.assertEqual(raised(does, self.bounds, whole, whole, order), (InvalidArgument, "order"), order)
        for order in plain.orders(2):
            self.assertIsNone(raised(does, self.bounds, whole, whole, order))
        for order in [((0, 1),), ((),), [], None]:
            self.assertEqual(raised(does, self.bounds, (1, 1), (2, 1), order), (InvalidArgument, "order"))


class FarSections(unittest.TestCase):

    def test_next_to_one_another(self):
        bounds, one, other = ((-END, END),), ((-END + 1, END, 1),), ((-END, END - 1, 1),)
        self.assertEqual(signs(bounds, one, other), [(-1,)])
        self.assertEqual(signs(bounds, other, one), [(1,)])
        self.assertEqual([does(bounds, one, other, FORWARD), does(bounds, one, other, BACKWARD)], [False, True])
        self.assertEqual([does(bounds, other, one, FORWARD), does(bounds, other, one, BACKWARD)], [True, False])
        self.assertEqual(clash(bounds, one, other, FORWARD), ((-END + 1,), (0,), (1,)))
        self.assertIsNone(clash(bounds, one, other, BACKWARD))
        self.assertEqual(clash(bounds, other, one, BACKWARD), ((END - 1,), (FAR - 1,), (FAR - 2,)))

    def test_turned(self):
        for low, high in [(-END, END), (-END, END - 1), (0, END), (1, END)]:
            bounds, one, other = ((-END, END),), ((low, high, 1),), ((high, low, -1),)
            size = high - low + 1
            self.assertEqual(signs(bounds, one, other), [(-1, 0, 1) if size % 2 else (-1, 1)])
            # Read at k is what was written at size - 1 - k.
            late = size // 2 + size % 2
            element = high - late
            self.assertEqual(clash(bounds, one, other, FORWARD), ((element,), (size - 1 - late,), (late,)))
            read = size - 1 - late
            self.assertEqual(clash(bounds, one, other, BACKWARD), ((high - read,), (late,), (read,)))

    def test_apart_by_far(self):
        bounds = ((-END, END),)
        one, other = ((0, END, 1),), ((-END, 0, 1),)
        self.assertEqual(signs(bounds, one, other), [(-1,)])
        self.assertEqual(clash(bounds, one, other, FORWARD), ((0,), (0,), (END,)))
        self.assertEqual(signs(bounds, other, one), [(1,)])
        self.assertEqual(clash(bounds, other, one, BACKWARD), ((0,), (END,), (0,)))
        self.assertEqual(signs(bounds, ((1, END, 1),), ((-END, -1, 1),)), [()])

    def test_by_steps(self):
        bounds = ((0, END),)
        many = END // 3
        # Written are the even numbers, read those by 3 from 3 on: shared are those by 6 from 6 on.
        one, other = ((0, 2 * many - 2, 2),), ((3, 3 * many, 3),)
        self.assertEqual(signs(bounds, one, other), [(1,)])
        self.assertIsNone(clash(bounds, one, other, FORWARD))
        late = (2 * many - 2) // 6 * 6
        self.assertEqual(clash(bounds, one, other, BACKWARD), ((late,), (late // 2,), ((late - 3) // 3,)))
        one, other = ((1000, 998 + 2 * many, 2),), ((0, 3 * many - 3, 3),)
        # Number k is 1000 + 2 * k where it is written, 3 * k where it is read: level at 1000 is none, for 3000 is not by 2 there.
        self.assertEqual(signs(bounds, one, other), [(-1, 0, 1)])
        self.assertEqual(clash(bounds, one, other, FORWARD), ((1002,), (1,), (334,)))
        top = (998 + 2 * many) // 6 * 6
        self.assertEqual(clash(bounds, one, other, BACKWARD), ((top,), ((top - 1000) // 2,), (top // 3,)))

    def test_lags_that_change_their_sign_far_out(self):
        bounds = ((0, END),)
        many = 10 ** 28
        for start in (10 ** 27, 10 ** 27 + 2):
            one, other = ((start, start + 2 * many - 2, 2),), ((0, 3 * many - 3, 3),)
            # Written at (x - start) / 2, read at x / 3: level at x = 3 * start.
            self.assertEqual(signs(bounds, one, other), [(-1, 0, 1)])
            level = 3 * start
            self.assertEqual(clash(bounds, other, one, FORWARD)[0], (level + 6,))
            self.assertEqual(clash(bounds, other, one, BACKWARD)[0], (level - 6,))
            low = start + (-start) % 6
            self.assertEqual(clash(bounds, one, other, FORWARD), ((low,), ((low - start) // 2,), (low // 3,)))
            top = (start + 2 * many - 2) // 6 * 6
            self.assertEqual(clash(bounds, one, other, BACKWARD), ((top,), ((top - start) // 2,), (top // 3,)))
        one, other = ((10 ** 27 + 1, 10 ** 27 + 2 * many - 1, 2),), ((0, 3 * many - 3, 3),)
        self.assertEqual(signs(bounds, one, other), [(-1, 0, 1)])

    def test_far_ones_in_seven_dimensions(self):
        bounds = ((-END, END),) * 7
        one = ((-END, END - 1, 1),) * 7
        other = ((-END, END - 1, 1),) * 3 + ((-END + 1, END, 1),) + ((-END, END - 1, 1),) * 3
        self.assertEqual(signs(bounds, one, other), [(0,)] * 3 + [(1,)] + [(0,)] * 3)
        order = tuple((loop, 1) for loop in range(7))
        self.assertTrue(does(bounds, one, other, order))
        turned = tuple((loop, -1) for loop in range(7))
        last = 2 * END - 1
        self.assertEqual(clash(bounds, one, other, turned), (
            (END - 1,) * 7, (last,) * 7, (last,) * 3 + (last - 1,) + (last,) * 3,
        ))

    def test_near_ones_moved_far_away(self):
        rng = chosen.generator(264)
        for _ in range(150):
            bounds, one, other = chosen.assignment(rng, 3)
            by = rng.choice([END - 9, -END + 9, 10 ** 20 + 1])
            moved = [
                tuple(
                    part + by if type(part) is int else (part[0] + by, part[1] + by, part[2]) for part in section
                ) for section in (one, other)
            ]
            there = tuple((low + by, high + by) for low, high in bounds)
            self.assertEqual(signs(there, *moved), signs(bounds, one, other))
            for order in plain.orders(len(signs(bounds, one, other))):
                told = clash(bounds, one, other, order)
                if told is not None:
                    told = (tuple(number + by for number in told[0]),) + told[1:]
                self.assertEqual(clash(there, *moved, order), told)

    def test_stretched_ones(self):
        # With all subscripts a far step apart nothing else changes.
        rng = chosen.generator(265)
        by = 10 ** 27
        for _ in range(100):
            bounds, one, other = chosen.assignment(rng, 2)
            stretched = [
                tuple(
                    part * by if type(part) is int else tuple(number * by for number in part) for part in section
                ) for section in (one, other)
            ]
            there = tuple((low * by, high * by) for low, high in bounds)
            self.assertEqual(signs(there, *stretched), signs(bounds, one, other))
            for order in plain.orders(len(signs(bounds, one, other))):
                told = clash(bounds, one, other, order)
                if told is not None:
                    told = (tuple(number * by for number in told[0]),) + told[1:]
                self.assertEqual(clash(there, *stretched, order), told)


if __name__ == "__main__":
    unittest.main()
