"""Promise 30: orders that do an assignment."""

import unittest

import chosen
import plain
from sectionwise.assigns import copy_needed, does, good_order, good_orders, signs
from sectionwise.errors import InvalidSection, LimitExceeded
from wrong import raised

FAR = 10 ** 30
END = 5 * 10 ** 29
# Parts of one dimension from 0 to 9 with these signs, and none but these, as written and as read.
BY_SIGNS = {
    (): ((0, 3, 1), (5, 8, 1)), (0,): ((0, 3, 1), (0, 3, 1)), (-1,): ((1, 4, 1), (0, 3, 1)), (1,): ((0, 3, 1), (1, 4, 1)),
    (-1, 1): ((0, 3, 1), (3, 0, -1)), (-1, 0, 1): ((0, 4, 1), (4, 0, -1)), (0, 1): ((0, 3, 1), (0, 6, 2)), (-1, 0): ((0, 6, 2), (0, 3, 1)),
}


def sections(by_loops):
    """Two sections whose loops have these signs."""
    pairs = [BY_SIGNS[its] for its in by_loops]
    return tuple(part for part, _ in pairs), tuple(its for _, its in pairs)


class Orders(unittest.TestCase):

    def check(self, bounds, one, other):
        many = len([part for part in one if type(part) is not int])
        told = [order for order in plain.orders(many) if plain.clash(one, other, order) is None]
        self.assertEqual(good_orders(bounds, one, other), told, (bounds, one, other))
        self.assertEqual(told, sorted(told))
        found = good_order(bounds, one, other)
        self.assertIs(copy_needed(bounds, one, other), told == [])
        if told:
            self.assertIn(found, told)
        else:
            self.assertIsNone(found)

    def test_the_signs_are_as_told(self):
        for its in BY_SIGNS:
            self.assertEqual(signs(((0, 9),), *sections([its])), [its])

    def test_against_all_orders(self):
        rng = chosen.generator(301)
        for _ in range(500):
            self.check(*chosen.assignment(rng, 3))

    def test_against_all_orders_of_four_loops(self):
        rng = chosen.generator(302)
        for _ in range(25):
            self.check(*chosen.assignment(rng, 4, (2, 3)))

    def test_by_the_signs_of_two_loops(self):
        for first in BY_SIGNS:
            for second in BY_SIGNS:
                one, other = sections([first, second])
                self.check(((0, 9), (0, 9)), one, other)

    def test_by_words(self):
        for by_loops, told in [
            ([(-1,)], [((0, -1),)]), ([(1,)], [((0, 1),)]), ([(0,)], [((0, -1),), ((0, 1),)]), ([(-1, 0, 1)], []), ([(-1, 1)], []),
            ([(0, 1)], [((0, 1),)]), ([()], [((0, -1),), ((0, 1),)]),
            ([(-1, 0, 1), (1,)], [((1, 1), (0, -1)), ((1, 1), (0, 1))]), ([(-1, 0, 1), (0, 1)], []), ([(-1, 1), (0,)], []),
            ([(0,), (-1,)], [((0, -1), (1, -1)), ((0, 1), (1, -1)), ((1, -1), (0, -1)), ((1, -1), (0, 1))]),
        ]:
            one, other = sections(by_loops)
            bounds = ((0, 9),) * len(by_loops)
            self.assertEqual(good_orders(bounds, one, other), told, by_loops)
            self.assertIs(copy_needed(bounds, one, other), told == [])

    def test_no_loop(self):
        bounds = ((0, 9), (0, 9))
        for one, other in [((1, 2), (1, 2)), ((1, 2), (3, 4))]:
            self.assertEqual(good_orders(bounds, one, other), [()])
            self.assertEqual(good_order(bounds, one, other), ())
            self.assertIs(copy_needed(bounds, one, other), False)

    def test_nothing_shared(self):
        one, other = sections([(), (-1, 1), (-1, 0, 1), (1,)])
        bounds = ((0, 9),) * 4
        self.assertEqual(good_orders(bounds, one, other), plain.orders(4))
        self.assertEqual(len(plain.orders(4)), 384)
        self.assertIn(good_order(bounds, one, other), plain.orders(4))
        self.assertIs(copy_needed(bounds, one, other), False)
        empty = ((1, 0, 1),) + one[1:]
        self.assertEqual(good_orders(bounds, empty, empty), plain.orders(4))

    def test_all_orders_of_one_to_four_loops(self):
        for many in range(1, 5):
            one, other = sections([(0,)] * many)
            self.assertEqual(good_orders(((0, 9),) * many, one, other), plain.orders(many))

    def test_five_loops_are_too_many(self):
        for its in [(0,), (1,), (-1, 0, 1), ()]:
            one, other = sections([its] * 5)
            bounds = ((0, 9),) * 5
            self.assertEqual(raised(good_orders, bounds, one, other), (LimitExceeded, 4))
            self.assertEqual(raised(good_orders, bounds, one[:4] + (3,), other[:4] + (3,)), None)
            self.assertIs(copy_needed(bounds, one, other), its == (-1, 0, 1))
        self.assertEqual(raised(good_orders, ((0, 9),) * 5, one, other[:4] + (7,)), (InvalidSection, "kept"))
        self.assertEqual(raised(good_orders, ((0, 9),) * 5, one, other[:4] + ((0, 1, 1),)), (InvalidSection, "shape"))
        self.assertEqual(raised(good_orders, ((1, 0),) * 5, ((1, 0, 1),) * 5, ((1, 0, 1),) * 5), (LimitExceeded, 4))

    def test_seven_loops(self):
        bounds = ((0, 9),) * 7
        for by_loops, is_there in [
            ([(-1, 0, 1)] * 6 + [(1,)], True), ([(-1, 0, 1)] * 6 + [(0, 1)], False), ([(0,)] * 7, True), ([(-1, 1)] * 7, False),
            ([(0, 1), (-1, 0), (0,), (-1, 0, 1), (0, 1), (-1,), (-1, 1)], True), ([(0, 1), (-1, 0), (0,), (-1, 0, 1), (0, 1), (-1, 0), (0,)], False),
            ([(0, 1), (-1, 0), (0,), (0, 1), (0, 1), (-1, 0), (0,)], True), ([()] + [(-1, 1)] * 6, True), ([(-1,)] * 7, True), ([(1,)] * 7, True),
            ([(-1, 1)] * 6 + [(-1,)], True), ([(-1, 1)] * 6 + [(0,)], False),
        ]:
            for turn in range(7):
                turned = by_loops[turn:] + by_loops[:turn]
                one, other = sections(turned)
                self.assertIs(copy_needed(bounds, one, other), not is_there, turned)
                found = good_order(bounds, one, other)
                if not is_there:
                    self.assertIsNone(found)
                    continue
                self.assertIs(type(found), tuple)
                self.assertEqual(sorted(loop for loop, _ in found), list(range(7)))
                self.assertTrue(does(bounds, one, other, found), turned)

    def test_far_sections(self):
        bounds = ((-END, END),) * 4
        one, other = ((-END + 1, END, 1),) * 4, ((-END, END - 1, 1),) * 4
        told = good_orders(bounds, one, other)
        self.assertEqual(told, [order for order in plain.orders(4) if order[0][1] == -1])
        self.assertEqual(good_orders(bounds, other, one), [order for order in plain.orders(4) if order[0][1] == 1])
        self.assertIn(good_order(bounds, one, other), told)
        turned = ((END - 1, -END, -1),) * 4
        self.assertEqual(good_orders(bounds, one, turned), [])
        self.assertTrue(copy_needed(bounds, one, turned))
        self.assertEqual(good_orders(bounds, one, one), plain.orders(4))


if __name__ == "__main__":
    unittest.main()
