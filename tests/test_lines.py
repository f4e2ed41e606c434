"""Promises 43, 44 and 45: shifts, sums and the like along a dimension, places of the greatest, products of matrices."""

import math
import unittest

import chosen
import grids
from sectionwise.errors import InvalidArgument, LimitExceeded
from sectionwise.functions import (
    all_of, any_of, cshift, eoshift, how_many, matmul, maxloc, minloc, product, reshape, spread, total, transpose,
)
from wrong import raised, values

FAR = 10 ** 30
LIMIT = (LimitExceeded, 5000)
A = ((2, 3), [1, 2, 3, 4, 5, 6])
BITS = ((2, 3), [True, False, False, False, True, True])
EMPTY = ((0, FAR), [])


def wrong_part(part):
    return (InvalidArgument, part)


def called(function, *given, **named):
    return raised(lambda: function(*given, **named))


def with_dims(rng, least=1):
    """An array of some dimensions, and one of them."""
    shape = grids.shape(rng, rng.randint(least, 7))
    return grids.numbers(rng, shape), rng.randint(1, len(shape))


def for_lines(rng, array, dim, low, high):
    """An integer, or an array of the shape without a dimension."""
    shape = grids.without(array[0], dim)
    if rng.random() < 0.4:
        return rng.randint(low, high)
    return shape, [rng.randint(low, high) for _ in grids.places(shape)]


class Shifts(unittest.TestCase):

    def test_against_all_subscripts(self):
        rng = chosen.generator(431)
        for _ in range(400):
            array, dim = with_dims(rng)
            shift, boundary = for_lines(rng, array, dim, -7, 7), for_lines(rng, array, dim, 100, 120)
            self.assertEqual(cshift(array, shift, dim=dim), grids.shifted(array, shift, dim), (array, shift, dim))
            self.assertEqual(eoshift(array, shift, boundary=boundary, dim=dim), grids.shifted(array, shift, dim, boundary), (array, shift, boundary, dim))
            self.assertEqual(eoshift(array, shift, dim=dim), grids.shifted(array, shift, dim, 0))
            if dim == 1:
                self.assertEqual(cshift(array, shift), grids.shifted(array, shift, 1))
                self.assertEqual(eoshift(array, shift), grids.shifted(array, shift, 1, 0))

    def test_by_words(self):
        row = ((4,), (10, 20, 30, 40))
        for shift, round_, out in [
            (0, [10, 20, 30, 40], [10, 20, 30, 40]), (1, [20, 30, 40, 10], [20, 30, 40, 0]), (-1, [40, 10, 20, 30], [0, 10, 20, 30]), (4, [10, 20, 30, 40], [0] * 4),
            (-4, [10, 20, 30, 40], [0] * 4), (5, [20, 30, 40, 10], [0] * 4), (FAR, [10, 20, 30, 40], [0] * 4), (-FAR - 1, [40, 10, 20, 30], [0] * 4), (3, [40, 10, 20, 30], [40, 0, 0, 0]),
            (FAR ** 20 + 1, [20, 30, 40, 10], [0] * 4), (((), [1]), [20, 30, 40, 10], [20, 30, 40, 0]), (((), (-2,)), [30, 40, 10, 20], [0, 0, 10, 20]),
        ]:
            self.assertEqual(cshift(row, shift), ((4,), round_))
            self.assertEqual(eoshift(row, shift), ((4,), out))
        self.assertEqual(eoshift(row, 2, boundary=-7), ((4,), [30, 40, -7, -7]))
        self.assertEqual(eoshift(row, -2, boundary=((), [9])), ((4,), [9, 9, 10, 20]))
        self.assertEqual(cshift(A, 1), ((2, 3), [2, 1, 4, 3, 6, 5]))
        self.assertEqual(cshift(A, ((3,), [0, 1, 2])), ((2, 3), [1, 2, 4, 3, 5, 6]))
        self.assertEqual(cshift(A, 1, dim=2), ((2, 3), [3, 4, 5, 6, 1, 2]))
        self.assertEqual(eoshift(A, ((2,), (1, -1)), boundary=((2,), (8, 9)), dim=2), ((2, 3), [3, 9, 5, 2, 8, 4]))

    def test_without_elements(self):
        for function in (cshift, eoshift):
            self.assertEqual(function(((0,), ()), 5), ((0,), []))
            self.assertEqual(function(EMPTY, FAR), EMPTY)
            self.assertEqual(function(EMPTY, 1, dim=2), EMPTY)
            self.assertEqual(function(EMPTY, ((0,), []), dim=2), EMPTY)
            self.assertEqual(function(((3, 0), []), ((3,), [1, 2, 3]), dim=2), ((3, 0), []))
            self.assertEqual(function(((3, 0, FAR), []), 1, dim=2), ((3, 0, FAR), []))
            self.assertEqual(raised(function, EMPTY, ((0,), [])), wrong_part("shift"))

    def test_of_5000(self):
        row = ((5000,), list(range(5000)))
        self.assertEqual(cshift(row, -1), ((5000,), [4999] + list(range(4999))))
        self.assertEqual(eoshift(((2, 2500), row[1]), 2499, dim=2), ((2, 2500), [4998, 4999] + [0] * 4998))

    def test_wrong_ones_in_their_order(self):
        for function in (cshift, eoshift):
            for array in values() + [((2,), [True, False]), ((2,), [1])]:
                self.assertEqual(called(function, array, None, dim=None), wrong_part("array"))
            for dim in values() + [0, 3, -1]:
                if type(dim) is not int or not 1 <= dim <= 2:
                    self.assertEqual(called(function, A, None, dim=dim), wrong_part("dim"))
            # An array without dimensions has no dim.
            for dim in (0, 1):
                self.assertEqual(called(function, ((), [5]), None, dim=dim), wrong_part("dim"))
            self.assertEqual(raised(function, ((), [5]), 1), wrong_part("dim"))
            for shift in values() + [((2,), [1, 2]), ((3,), [True] * 3), ((3, 1), [1, 2, 3]), [1, 2, 3], ((), [1])]:
                if type(shift) is not int:
                    self.assertEqual(raised(function, A, shift), wrong_part("shift"))
                    self.assertEqual(called(function, A, shift, dim=3), wrong_part("dim"))
            for named in [{"dim": 1}, {"dim": 2}]:
                self.assertIsNone(called(function, A, 1, **named))
        for boundary in values() + [((2,), [1, 2]), ((3,), [True] * 3), ((3, 1), [1, 2, 3]), [1, 2, 3]]:
            if type(boundary) is not int:
                self.assertEqual(called(eoshift, A, 1, boundary=boundary), wrong_part("boundary"))
                self.assertEqual(called(eoshift, A, None, boundary=boundary), wrong_part("shift"))
                self.assertEqual(called(eoshift, A, None, boundary=boundary, dim=0), wrong_part("dim"))
        self.assertIsNone(called(eoshift, A, 1, boundary=((3,), (1, 2, 3))))

    def test_one_shift_behind_another(self):
        rng = chosen.generator(432)
        for _ in range(100):
            array, dim = with_dims(rng)
            one, other = rng.randint(-9, 9), rng.randint(-9, 9)
            self.assertEqual(cshift(cshift(array, one, dim=dim), other, dim=dim), cshift(array, one + other, dim=dim))
            self.assertEqual(cshift(array, array[0][dim - 1], dim=dim), array)


class Sums(unittest.TestCase):

    def test_total_and_product_against_all_subscripts(self):
        rng = chosen.generator(441)
        for _ in range(400):
            array = grids.numbers(rng, grids.shape(rng))
            mask = grids.mask(rng, array[0])
            for dim in [None] + list(range(1, len(array[0]) + 1)):
                told = grids.folded(array, dim, mask, lambda rows: sum(thing for _, thing in rows))
                self.assertEqual(total(array, dim=dim, mask=mask), told, (array, dim, mask))
                told = grids.folded(array, dim, mask, lambda rows: math.prod(thing for _, thing in rows))
                self.assertEqual(product(array, dim=dim, mask=mask), told, (array, dim, mask))
            self.assertEqual(total(array), sum(array[1]))
            self.assertEqual(product(array), math.prod(array[1]))

    def test_masks_against_all_subscripts(self):
        rng = chosen.generator(442)
        for _ in range(400):
            mask = grids.bools(rng, grids.shape(rng))
            for dim in [None] + list(range(1, len(mask[0]) + 1)):
                for function, way in [
                    (how_many, lambda rows: sum(thing for _, thing in rows)), (any_of, lambda rows: any(thing for _, thing in rows)), (all_of, lambda rows: all(thing for _, thing in rows)),
                ]:
                    told = function(mask, dim=dim)
                    plain = grids.folded(mask, dim, True, way)
                    self.assertEqual(told, plain)
                    self.assertEqual([type(thing) for thing in (told[1] if dim else [told])], [type(thing) for thing in (plain[1] if dim else [plain])])

    def test_by_words(self):
        self.assertEqual([total(A), total(A, dim=1), total(A, dim=2)], [21, ((3,), [3, 7, 11]), ((2,), [9, 12])])
        self.assertEqual([total(A, mask=BITS), total(A, dim=1, mask=BITS), total(A, mask=False), total(A, dim=2, mask=False)], [12, ((3,), [1, 0, 11]), 0, ((2,), [0, 0])])
        self.assertEqual([product(A), product(A, dim=1), product(A, dim=2, mask=BITS), product(A, mask=False)], [720, ((3,), [2, 12, 30]), ((2,), [5, 6]), 1])
        self.assertEqual([how_many(BITS), how_many(BITS, dim=1), how_many(BITS, dim=2)], [3, ((3,), [1, 0, 2]), ((2,), [2, 1])])
        self.assertEqual([any_of(BITS), any_of(BITS, dim=1), all_of(BITS), all_of(BITS, dim=1)], [True, ((3,), [True, False, True]), False, ((3,), [False, False, True])])
        self.assertEqual([total(((), [7])), product(((), (7,)), mask=((), [False])), how_many(((), [True])), any_of(((), [False]))], [7, 1, 1, False])
        self.assertEqual(total(((3,), [FAR ** 5, 1, -FAR ** 5]), dim=1), ((), [1]))
        self.assertEqual(total(((2,), (1, 2)), mask=((2,), (True, False))), 1)

    def test_without_elements(self):
        none = ((0,), [])
        self.assertEqual([total(none), product(none), how_many(none), any_of(none), all_of(none)], [0, 1, 0, False, True])
        self.assertEqual([total(none, dim=1), product(none, dim=1), any_of(none, dim=1), all_of(none, dim=1)], [((), [0]), ((), [1]), ((), [False]), ((), [True])])
        self.assertEqual([total(((0, 3), []), dim=1), total(((3, 0), []), dim=1), product(((0, 3), []), dim=1)], [((3,), [0, 0, 0]), ((0,), []), ((3,), [1, 1, 1])])
        self.assertEqual([total(EMPTY), total(EMPTY, dim=2), all_of(EMPTY, dim=2), maxloc(EMPTY), maxloc(EMPTY, dim=2)], [0, ((0,), []), ((0,), []), (0, 0), ((0,), [])])
        self.assertEqual(total(((0, 5000), []), dim=1), ((5000,), [0] * 5000))
        self.assertEqual([total(((0, 2, FAR), []), dim=2), any_of(((FAR, 2, 0), []), dim=2)], [((0, FAR), []), ((FAR, 0), [])])
        for function in (total, product, how_many, any_of, all_of, maxloc, minloc):
            self.assertEqual(called(function, EMPTY, dim=1), LIMIT)
            self.assertEqual(called(function, ((0, 5001), []), dim=1), LIMIT)
            self.assertEqual(called(function, ((FAR, 0, 2), []), dim=2), LIMIT)
            self.assertIsNone(called(function, ((0, 5000), []), dim=1))
            self.assertIsNone(called(function, ((FAR, 0, 0), []), dim=2))

    def test_wrong_ones_in_their_order(self):
        for function in (total, product, maxloc, minloc):
            for array in values() + [BITS, ((2,), [1])]:
                self.assertEqual(called(function, array, dim=0, mask=None), wrong_part("array"))
            for dim in values() + [0, 3, -1]:
                if dim is not None and (type(dim) is not int or not 1 <= dim <= 2):
                    self.assertEqual(called(function, A, dim=dim, mask=None), wrong_part("dim"), dim)
            for mask in values() + [A, ((3, 2), [True] * 6), ((2,), [True] * 2), 1, 0]:
                if type(mask) is not bool:
                    self.assertEqual(called(function, A, mask=mask), wrong_part("mask"))
                    self.assertEqual(called(function, EMPTY, dim=1, mask=mask), wrong_part("mask"))
            self.assertEqual(called(function, ((), [1]), dim=1), wrong_part("dim"))
        for function in (how_many, any_of, all_of):
            for mask in values() + [A, True, False, ((2,), [True])]:
                self.assertEqual(called(function, mask, dim=0), wrong_part("mask"))
            for dim in values() + [0, 3, -1]:
                if dim is not None and (type(dim) is not int or not 1 <= dim <= 2):
                    self.assertEqual(called(function, BITS, dim=dim), wrong_part("dim"))
        for function in (maxloc, minloc):
            for back in values():
                if type(back) is not bool:
                    self.assertEqual(called(function, A, back=back), wrong_part("back"))
                    self.assertEqual(called(function, A, mask=None, back=back), wrong_part("mask"))
                    self.assertEqual(called(function, EMPTY, dim=1, back=back), wrong_part("back"))

    def test_keywords_are_asked_for(self):
        for function in (total, product, maxloc, minloc, how_many, any_of, all_of):
            with self.assertRaises(TypeError):
                function(BITS if function in (how_many, any_of, all_of) else A, 1)
        for function in (cshift, eoshift):
            with self.assertRaises(TypeError):
                function(A, 1, 1)
        with self.assertRaises(TypeError):
            reshape(A, (6,), None)


class Places(unittest.TestCase):

    def test_against_all_subscripts(self):
        rng = chosen.generator(443)
        for _ in range(400):
            array = grids.numbers(rng, grids.shape(rng), rng.choice([1, 2, 9]))
            mask, back = grids.mask(rng, array[0]), rng.random() < 0.5
            for dim in [None] + list(range(1, len(array[0]) + 1)):
                self.assertEqual(maxloc(array, dim=dim, mask=mask, back=back), grids.best(array, dim, mask, back, True), (array, dim, mask, back))
                self.assertEqual(minloc(array, dim=dim, mask=mask, back=back), grids.best(array, dim, mask, back, False), (array, dim, mask, back))

    def test_by_words(self):
        self.assertEqual([maxloc(A), maxloc(A, dim=1), maxloc(A, mask=False), maxloc(A, dim=2, mask=False)], [(2, 3), ((3,), [2, 2, 2]), (0, 0), ((2,), [0, 0])])
        self.assertEqual([minloc(A), minloc(A, dim=2), minloc(A, mask=BITS, back=True)], [(1, 1), ((2,), [1, 1]), (1, 1)])
        alike = ((2, 2), (5, 7, 7, 5))
        self.assertEqual([maxloc(alike), maxloc(alike, back=True), minloc(alike), minloc(alike, back=True)], [(2, 1), (1, 2), (1, 1), (2, 2)])
        self.assertEqual([maxloc(((), [7])), maxloc(((), [7]), mask=False)], [(), ()])
        self.assertEqual(maxloc(((3,), [-FAR, -FAR ** 2, -FAR]), dim=1, back=True), ((), [3]))
        self.assertEqual(maxloc(((3,), [-5, -7, -5]), mask=((3,), [False, True, False])), (2,))


class Products(unittest.TestCase):

    def test_against_all_subscripts(self):
        rng = chosen.generator(444)
        for _ in range(300):
            many, inner, others = [rng.choice([0, 1, 1, 2, 3, 4, 5]) for _ in range(3)]
            kind = rng.random()
            one = grids.numbers(rng, (inner,) if kind < 0.3 else (many, inner))
            other = grids.numbers(rng, (inner,) if kind > 0.7 else (inner, others))
            self.assertEqual(matmul(one, other), grids.matmul(one, other), (one, other))

    def test_by_words(self):
        b = ((3, 2), (1, 0, 2, 5, 1, 1))
        self.assertEqual(matmul(A, b), ((2, 2), [11, 14, 13, 20]))
        self.assertEqual(matmul(((2,), [1, 10]), A), ((3,), [21, 43, 65]))
        self.assertEqual(matmul(A, ((3,), (1, 10, 100))), ((2,), [531, 642]))
        self.assertEqual(matmul(((2, 0), []), ((0, 3), [])), ((2, 3), [0] * 6))
        self.assertEqual(matmul(((0,), []), ((0, 3), [])), ((3,), [0, 0, 0]))
        self.assertEqual(matmul(EMPTY, ((FAR, 0), [])), ((0, 0), []))
        self.assertEqual(matmul(((0, 4), []), ((4,), [1, 2, 3, 4])), ((0,), []))
        self.assertEqual(matmul(((0, 4), []), ((4, 0), [])), ((0, 0), []))

    def test_extents_that_do_not_fit(self):
        vector = ((3,), [1, 2, 3])
        for other in values() + [A, ((2,), [1, 2]), ((), [3]), ((3, 1, 1), [1, 2, 3]), ((3,), [True] * 3), ((3, 2), [1] * 5), ((2, 3, 1), [1] * 6)]:
            self.assertEqual(raised(matmul, A, other), wrong_part("other"))
        self.assertEqual(raised(matmul, vector, vector), wrong_part("other"))
        self.assertEqual(raised(matmul, vector, A), wrong_part("other"))
        self.assertIsNone(raised(matmul, A, vector))
        for one in values() + [((), [3]), ((3, 1, 1), [1, 2, 3]), ((3,), [True] * 3), BITS]:
            self.assertEqual(raised(matmul, one, None), wrong_part("one"))

    def test_limits(self):
        self.assertEqual(raised(matmul, ((71, 1), [1] * 71), ((1, 71), [1] * 71)), LIMIT)
        self.assertIsNone(raised(matmul, ((50, 1), [1] * 50), ((1, 100), [1] * 100)))
        self.assertEqual(raised(matmul, ((5000, 1), [1] * 5000), ((1, 5000), [1] * 5000)), LIMIT)
        self.assertEqual(raised(matmul, ((FAR, 0), []), ((0, 1), [])), LIMIT)
        self.assertEqual(raised(matmul, ((1, 0), []), ((0, FAR), [])), LIMIT)
        self.assertEqual(raised(matmul, ((FAR, 0), []), ((0,), [])), LIMIT)
        self.assertEqual(matmul(((5000, 0), []), ((0, 1), [])), ((5000, 1), [0] * 5000))
        self.assertEqual(matmul(((1, 5000), [2] * 5000), ((5000, 1), [3] * 5000)), ((1, 1), [30000]))


class Facts(unittest.TestCase):

    def test_of_45(self):
        rng = chosen.generator(451)
        for _ in range(120):
            array = grids.numbers(rng, grids.shape(rng))
            left = array
            while left[0]:
                left = total(left, dim=rng.randint(1, len(left[0])))
            self.assertEqual(left[1], [total(array)])
            if len(array[0]) < 7:
                dim, copies = rng.randint(1, len(array[0]) + 1), rng.randint(0, 4)
                self.assertEqual(total(spread(array, dim, copies), dim=dim), (array[0], [copies * thing for thing in array[1]]))
            one = grids.numbers(rng, grids.shape(rng, 2))
            other = grids.numbers(rng, (one[0][1], rng.randint(0, 4)))
            self.assertEqual(transpose(matmul(one, other)), matmul(transpose(other), transpose(one)))
            mask = grids.bools(rng, array[0])
            self.assertEqual(how_many(mask), total((mask[0], [int(thing) for thing in mask[1]])))
            self.assertIs(any_of(mask), how_many(mask) > 0)
            self.assertIs(all_of(mask), how_many(mask) == len(mask[1]))


if __name__ == "__main__":
    unittest.main()
