"""Promises 39 to 42: arrays, masks, elements, and functions that put elements elsewhere."""

import unittest

import chosen
import grids
from sectionwise import functions
from sectionwise.errors import InvalidArgument, LimitExceeded
from sectionwise.functions import element, is_array, is_mask, merge, pack, reshape, spread, transpose, unpack
from wrong import raised, values

FAR = 10 ** 30
LIMIT = (LimitExceeded, 5000)
SIX = ((6,), [1, 2, 3, 4, 5, 6])
NONE = ((0,), [])


def wrong_part(part):
    return (InvalidArgument, part)


def called(function, *given, **named):
    """What a call with keywords raises."""
    return raised(lambda: function(*given, **named))


class Arrays(unittest.TestCase):

    def test_of_none_to_seven_dimensions(self):
        for many in range(8):
            self.assertIs(is_array(((2,) * many, list(range(2 ** many)))), True)
            self.assertIs(is_mask(((2,) * many, [True] * 2 ** many)), True)
            self.assertIs(is_array(((0,) * many, [] if many else [7])), True)
        self.assertIs(is_array(((1,) * 8, [1])), False)
        self.assertIs(is_mask(((1,) * 8, [True])), False)

    def test_is_array_and_is_mask(self):
        for value, array, mask in [
            (((2,), [1, 2]), True, False), (((2,), (1, 2)), True, False), (((2,), [True, False]), False, True), (((2,), (True, False)), False, True), (((2,), [1, True]), False, False),
            (((), [5]), True, False), (((), [True]), False, True), (((), []), False, False), (((), [1, 2]), False, False), (((0,), []), True, True), (((0,), ()), True, True),
            (((FAR, 0), []), True, True), (((0, FAR, 5), ()), True, True), (((FAR,), []), False, False), (((2,), [1]), False, False), (((2,), [1, 2, 3]), False, False),
            (((2, 2), [1, 2, 3, 4]), True, False), (((-1,), []), False, False), (((-1, 0), []), False, False), (((True,), [1]), False, False), (((False,), []), False, False), (((2.0,), [1, 2]), False, False),
            (([2], [1, 2]), False, False), ([(2,), [1, 2]], False, False), (((2,), [1, 2], 0), False, False), (((2,),), False, False), ((2, [1, 2]), False, False), (((2,), {1, 2}), False, False),
            (((2,), {1: 2, 2: 3}), False, False), (((2,), "ab"), False, False), (((2,), b"ab"), False, False), (((2,), range(2)), False, False), (((2,), iter([1, 2])), False, False),
            (((2,), [1.0, 2]), False, False), (((2,), [None, None]), False, False), (((1,), [10 ** 400]), True, False), (((5000,), [0] * 5000), True, False), (((5001,), [0] * 5001), False, False),
            (((5000,), [True] * 5000), False, True), (((5001,), [True] * 5001), False, False), (((50, 100), [0] * 5000), True, False), (((None,), []), False, False), (([], [1]), False, False),
        ]:
            self.assertIs(is_array(value), array, value)
            self.assertIs(is_mask(value), mask, value)

    def test_of_any_object(self):
        for value in values():
            self.assertIs(is_array(value), False)
            self.assertIs(is_mask(value), False)
            for made in [((1,), [value]), ((1,), (value,))]:
                self.assertIs(is_array(made), type(value) is int)
                self.assertIs(is_mask(made), type(value) is bool)
            for made in [((1,), value), (value, [1]), (value, []), ((value,), [1]), ((value, 0), [])]:
                told = self.expected(made)
                self.assertIs(is_array(made), told and all(type(thing) is int for thing in made[1]), made)
                self.assertIs(is_mask(made), told and all(type(thing) is bool for thing in made[1]), made)

    def expected(self, made):
        shape, row = made
        if type(shape) is not tuple or type(row) not in (list, tuple) or any(type(extent) is not int or extent < 0 for extent in shape):
            return False
        many = 1
        for extent in shape:
            many *= extent
        return len(row) == many

    def test_element(self):
        rng = chosen.generator(391)
        for _ in range(150):
            shape = grids.shape(rng)
            for array in (grids.numbers(rng, shape), grids.bools(rng, shape)):
                for place, thing in grids.grid(array).items():
                    self.assertEqual((element(array, place), type(element(array, list(place)))), (thing, type(thing)))
        self.assertIs(element(((), [True]), ()), True)
        self.assertEqual(element(((), (7,)), []), 7)

    def test_wrong_subscripts(self):
        array = ((2, 3), [1, 2, 3, 4, 5, 6])
        for subscripts in [(1, 1), [2, 3], (2, 1)]:
            self.assertIsNone(raised(element, array, subscripts))
        for subscripts in values() + [(0, 1), (3, 1), (1, 4), (1, 0), (1,), (1, 1, 1), (True, 1), (1, True), (1.0, 1), {1, 2}, {1: 1, 2: 2}, "ab", (1, None), (-1, -1), range(1, 3)]:
            if type(subscripts) not in (list, tuple) or len(subscripts) != 2 or subscripts != (1, 2):
                self.assertEqual(raised(element, array, subscripts), wrong_part("subscripts"), subscripts)
                self.assertEqual(raised(element, ((2,), [1, True]), subscripts), wrong_part("array"))
        for subscripts in [(), (1,), (0,)]:
            self.assertEqual(raised(element, NONE, subscripts), wrong_part("subscripts"))

    def test_defined_where_the_interface_lists_them(self):
        names = ("is_array is_mask element reshape transpose spread merge pack unpack cshift eoshift total product how_many "
                 "any_of all_of maxloc minloc matmul").split()
        for name in names:
            self.assertEqual(getattr(functions, name).__module__, "sectionwise.functions")


class Reshape(unittest.TestCase):

    def test_against_all_subscripts(self):
        rng = chosen.generator(401)
        for _ in range(500):
            source, shape = grids.numbers(rng, grids.shape(rng)), grids.shape(rng)
            pad = None if rng.random() < 0.2 else grids.numbers(rng, grids.shape(rng, 2, 8), 99)
            order = None if rng.random() < 0.3 else rng.sample(range(1, len(shape) + 1), len(shape))
            many = len(grids.places(shape))
            if many > len(source[1]) and not (pad and pad[1]):
                self.assertEqual(called(reshape, source, shape, pad=pad, order=order), wrong_part("source"))
                continue
            told = grids.reshape(source, shape, pad, order)
            self.assertEqual(reshape(source, shape, pad=pad, order=order), told, (source, shape, pad, order))
            self.assertEqual(reshape(source, list(shape), pad=pad, order=order and tuple(order)), told)

    def test_by_words(self):
        for given, named, told in [
            ((SIX, (2, 3)), {}, ((2, 3), [1, 2, 3, 4, 5, 6])), ((SIX, (2, 3)), {"order": (2, 1)}, ((2, 3), [1, 4, 2, 5, 3, 6])), ((SIX, ()), {}, ((), [1])),
            ((SIX, (4,)), {}, ((4,), [1, 2, 3, 4])), ((SIX, [0]), {}, NONE), ((NONE, (0, 5)), {}, ((0, 5), [])), ((SIX, (2, 4)), {"pad": ((), [0])}, ((2, 4), [1, 2, 3, 4, 5, 6, 0, 0])),
            ((SIX, (3, 3)), {"pad": ((2,), (8, 9))}, ((3, 3), [1, 2, 3, 4, 5, 6, 8, 9, 8])), ((NONE, (3,)), {"pad": ((2,), [8, 9])}, ((3,), [8, 9, 8])),
            ((SIX, (2, 1, 3)), {"order": [3, 1, 2]}, ((2, 1, 3), [1, 4, 2, 5, 3, 6])), ((((), [7]), (1, 1)), {"order": (1, 2)}, ((1, 1), [7])), ((SIX, ()), {"order": ()}, ((), [1])),
            ((SIX, (6,)), {"pad": NONE}, SIX), ((NONE, (FAR, 0)), {"order": (2, 1)}, ((FAR, 0), [])),
        ]:
            self.assertEqual(reshape(*given, **named), told)

    def test_leads_back(self):
        rng = chosen.generator(402)
        for _ in range(100):
            source = grids.numbers(rng, grids.shape(rng))
            many = len(source[1])
            self.assertEqual(reshape(reshape(source, (1, many, 1)), source[0]), source)
            matrix = grids.numbers(rng, grids.shape(rng, 2))
            self.assertEqual(reshape(matrix, matrix[0][::-1], order=(2, 1)), transpose(matrix))

    def test_shapes_and_orders(self):
        for shape in [(), [], (1,), [1] * 7, (0,), (FAR, 0), (1, 2, 3)]:
            self.assertIsNone(raised(reshape, SIX, shape))
        for shape in values() + [(1,) * 8, (-1,), (True,), (1.0,), "1", {1}, {1: 1}, (None,), ((1,),), 5, range(2)]:
            if type(shape) not in (list, tuple) or any(type(extent) is not int or extent < 0 for extent in shape) or len(shape) > 7:
                self.assertEqual(called(reshape, SIX, shape, pad=5, order=5), wrong_part("shape"), shape)
        for order in [(1, 2), (2, 1), [2, 1], None]:
            self.assertIsNone(called(reshape, SIX, (2, 3), order=order))
        for order in values() + [(1,), (1, 1), (0, 1), (2, 3), (1, 2, 3), (True, 2), (1, 2.0), {1, 2}, {1: 1, 2: 2}, (1, None), "12", ()]:
            if order is not None and order != (1, 2):
                self.assertEqual(called(reshape, SIX, (2, 3), order=order), wrong_part("order"), order)
                self.assertEqual(called(reshape, SIX, (2, 3), pad=1, order=order), wrong_part("pad"))

    def test_limits_and_errors_that_come_last(self):
        few = ((5000,), [1] * 5000)
        self.assertIsNone(raised(reshape, few, (50, 100)))
        self.assertEqual(raised(reshape, few, (5001,)), LIMIT)
        self.assertEqual(raised(reshape, NONE, (FAR,)), LIMIT)
        self.assertEqual(called(reshape, NONE, (FAR,), order=(2,)), wrong_part("order"))
        self.assertEqual(called(reshape, NONE, (5001,), pad=((1,), [0])), LIMIT)
        self.assertEqual(raised(reshape, SIX, (7,)), wrong_part("source"))
        self.assertEqual(called(reshape, SIX, (7,), pad=NONE), wrong_part("source"))
        self.assertEqual(called(reshape, SIX, (7,), pad=5), wrong_part("pad"))
        self.assertEqual(called(reshape, ((1,), [True]), (7,), pad=5), wrong_part("source"))
        self.assertIsNone(called(reshape, SIX, (5000,), pad=((1,), [0])))


class Others(unittest.TestCase):

    def test_transpose(self):
        rng = chosen.generator(403)
        for _ in range(100):
            matrix = grids.numbers(rng, grids.shape(rng, 2))
            self.assertEqual(transpose(matrix), grids.transpose(matrix))
            self.assertEqual(transpose(transpose(matrix)), matrix)
        self.assertEqual(transpose(((FAR, 0), [])), ((0, FAR), []))
        self.assertEqual(transpose(((0, FAR), ())), ((FAR, 0), []))
        self.assertEqual(transpose(((2, 1), (5, 6))), ((1, 2), [5, 6]))
        for array in values() + [SIX, ((), [1]), ((1, 1, 1), [1]), ((1, 1), [True]), ((2, 2), [1, 2, 3]), [(1, 1), [1]]]:
            self.assertEqual(raised(transpose, array), wrong_part("array"))

    def test_spread(self):
        rng = chosen.generator(411)
        for _ in range(250):
            source = grids.numbers(rng, grids.shape(rng, rng.randint(0, 6)))
            dim, copies = rng.randint(1, len(source[0]) + 1), rng.randint(0, 5)
            self.assertEqual(spread(source, dim, copies), grids.spread(source, dim, copies), (source, dim, copies))
        self.assertEqual(spread(((2,), (7, 8)), 2, 2), ((2, 2), [7, 8, 7, 8]))
        self.assertEqual(spread(((), [7]), 1, 3), ((3,), [7, 7, 7]))
        self.assertEqual(spread(NONE, 2, FAR), ((0, FAR), []))
        self.assertEqual(spread(NONE, 1, FAR), ((FAR, 0), []))
        self.assertEqual(spread(((FAR, 0), []), 1, FAR), ((FAR, FAR, 0), []))
        self.assertEqual(spread(SIX, 1, 0), ((0, 6), []))

    def test_spread_of_wrong_ones(self):
        for source in values() + [((1,) * 7, [1]), ((1,), [True])]:
            self.assertEqual(raised(spread, source, None, None), wrong_part("source"))
        self.assertIsNone(raised(spread, ((1,) * 6, [1]), 7, 1))
        for dim in values() + [0, 3, -1]:
            if type(dim) is not int or not 1 <= dim <= 2:
                self.assertEqual(raised(spread, SIX, dim, None), wrong_part("dim"))
        for copies in values() + [-1]:
            if type(copies) is not int or copies < 0:
                self.assertEqual(raised(spread, SIX, 2, copies), wrong_part("copies"))
        self.assertIsNone(raised(spread, SIX, 1, 833))
        self.assertEqual(raised(spread, SIX, 1, 834), LIMIT)
        self.assertEqual(raised(spread, SIX, 2, FAR), LIMIT)
        self.assertEqual(raised(spread, SIX, 3, FAR), wrong_part("dim"))

    def test_merge(self):
        rng = chosen.generator(412)
        for _ in range(150):
            shape = grids.shape(rng)
            one, other, mask = grids.numbers(rng, shape), grids.numbers(rng, shape, 99), grids.bools(rng, shape)
            told = grids.array(shape, lambda place: grids.grid(one if grids.grid(mask)[place] else other)[place])
            self.assertEqual(merge(one, other, mask), told)
        self.assertEqual(merge(((FAR, 0), []), ((FAR, 0), ()), ((FAR, 0), [])), ((FAR, 0), []))
        other, mask = ((6,), (7, 8, 9, 7, 8, 9)), ((6,), (True, False) * 3)
        self.assertEqual(merge(SIX, other, mask), ((6,), [1, 8, 3, 7, 5, 9]))
        two = ((2, 3), [1, 2, 3, 4, 5, 6])
        for value in values() + [mask, two]:
            self.assertEqual(raised(merge, value if value != two else mask, other, None), wrong_part("one"))
            self.assertEqual(raised(merge, SIX, value, None), wrong_part("other"))
        for value in values() + [SIX, ((2, 3), [True] * 6), ((5,), [True] * 5)]:
            self.assertEqual(raised(merge, SIX, other, value), wrong_part("mask"))


class Packing(unittest.TestCase):

    def test_pack(self):
        rng = chosen.generator(421)
        for _ in range(250):
            array = grids.numbers(rng, grids.shape(rng))
            mask = grids.mask(rng, array[0])
            row = [thing for thing, is_taken in zip(array[1], [mask] * len(array[1]) if type(mask) is bool else mask[1]) if is_taken]
            self.assertEqual(pack(array, mask), ((len(row),), row))
            vector = grids.numbers(rng, (len(row) + rng.randint(0, 5),), 99)
            self.assertEqual(pack(array, mask, vector=vector), (vector[0], row + vector[1][len(row):]))
            if row:
                self.assertEqual(called(pack, array, mask, vector=grids.numbers(rng, (rng.randint(0, len(row) - 1),))), wrong_part("vector"))

    def test_pack_by_words(self):
        mask = ((6,), (False, True) * 3)
        self.assertEqual(pack(SIX, mask), ((3,), [2, 4, 6]))
        self.assertEqual(pack(SIX, mask, vector=((5,), (9, 9, 9, 8, 7))), ((5,), [2, 4, 6, 8, 7]))
        self.assertEqual(pack(SIX, True), SIX)
        self.assertEqual(pack(SIX, False), NONE)
        self.assertEqual(pack(SIX, False, vector=NONE), NONE)
        self.assertEqual(pack(((), [7]), True), ((1,), [7]))
        self.assertEqual(pack(((FAR, 0), []), ((FAR, 0), ())), NONE)
        self.assertEqual(pack(SIX, False, vector=((5000,), [1] * 5000)), ((5000,), [1] * 5000))

    def test_pack_of_wrong_ones(self):
        for value in values() + [((1,), [True])]:
            self.assertEqual(called(pack, value, None, vector=1), wrong_part("array"))
        for value in values() + [SIX, ((5,), [True] * 5), ((3, 2), [True] * 6), 1, 0]:
            if type(value) is not bool:
                self.assertEqual(called(pack, SIX, value, vector=1), wrong_part("mask"))
        for value in values() + [((7,), [True] * 7), ((1, 7), [1] * 7), ((5,), [1] * 5), ((), [1])]:
            if value is not None:
                self.assertEqual(called(pack, SIX, True, vector=value), wrong_part("vector"))

    def test_unpack(self):
        rng = chosen.generator(422)
        for _ in range(250):
            shape = grids.shape(rng)
            mask = grids.bools(rng, shape)
            vector = grids.numbers(rng, (mask[1].count(True) + rng.randint(0, 3),), 99)
            field = rng.choice([grids.numbers(rng, shape), rng.randint(-9, 9)])
            left = list(vector[1])
            told = [left.pop(0) if is_taken else field if type(field) is int else field[1][at] for at, is_taken in enumerate(mask[1])]
            self.assertEqual(unpack(vector, mask, field), (shape, told))
            if True in mask[1]:
                few = grids.numbers(rng, (rng.randint(0, mask[1].count(True) - 1),))
                self.assertEqual(raised(unpack, few, mask, field), wrong_part("vector"))

    def test_unpack_by_words(self):
        mask = ((2, 2), (False, True, True, False))
        self.assertEqual(unpack(((2,), (8, 9)), mask, ((2, 2), (1, 2, 3, 4))), ((2, 2), [1, 8, 9, 4]))
        self.assertEqual(unpack(SIX, mask, FAR ** 3), ((2, 2), [FAR ** 3, 1, 2, FAR ** 3]))
        self.assertEqual(unpack(NONE, ((0, FAR), []), 5), ((0, FAR), []))
        self.assertEqual(unpack(NONE, ((0, FAR), []), ((0, FAR), [])), ((0, FAR), []))
        self.assertEqual(unpack(((1,), [3]), ((), [True]), 0), ((), [3]))

    def test_unpack_of_wrong_ones(self):
        mask = ((2, 2), [False, True, True, False])
        for value in values() + [((1, 2), [1, 2]), ((2,), [True, True]), ((), [1])]:
            self.assertEqual(raised(unpack, value, None, None), wrong_part("vector"))
        for value in values() + [SIX, True, False]:
            self.assertEqual(raised(unpack, SIX, value, None), wrong_part("mask"))
        for value in values() + [((4,), [1] * 4), ((2, 2), [True] * 4), True]:
            if type(value) is not int:
                self.assertEqual(raised(unpack, SIX, mask, value), wrong_part("field"))
                # A vector that is too short is told last.
                self.assertEqual(raised(unpack, NONE, mask, value), wrong_part("field"))
        self.assertEqual(raised(unpack, NONE, mask, 0), wrong_part("vector"))

    def test_leads_back(self):
        rng = chosen.generator(423)
        for _ in range(150):
            array = grids.numbers(rng, grids.shape(rng))
            mask = grids.bools(rng, array[0])
            self.assertEqual(unpack(pack(array, mask), mask, array), array)


if __name__ == "__main__":
    unittest.main()
