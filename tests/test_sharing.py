"""Promises 46 to 51: variables, rows, offsets, rings, and what two variables share."""

import itertools
import math
import unittest

import chosen
import laid
from sectionwise import sharing
from sectionwise.errors import InvalidArgument, InvalidLayout
from sectionwise.sharing import (
    are_bases, idle, is_ring, offsets, pairs_number, ring, shared, touched, twins_number,
)
from wrong import Own, raised, values

FAR = 10 ** 30
VARIABLES = (InvalidLayout, "variables")
ROWS = (InvalidLayout, "rows")
RING = (InvalidLayout, "ring")
A, D, X = ("a", 1, ((1, 10),)), ("d", 2, ((0, 3),)), ("x", 1, ())
THREE = (A, D, X)
HOLD = ((("a", (4,)), ("d", (1,))), (("x", ()), ("d", ())))
LONG = ["v" + first + second for first in "abcdefg" for second in "abcdefgh"]


def layouts(seed, many, can_hold=True):
    """Some variables with rows, told with whether they were made to hold."""
    rng = chosen.generator(seed)
    for _ in range(many):
        some = laid.variables(rng)
        rows = laid.rows_that_hold(rng, some) if can_hold else laid.any_rows(rng, some)
        yield rng, some, rows


class Layouts(unittest.TestCase):

    def test_of_none_to_seven_dimensions(self):
        for many in range(8):
            self.assertIsNone(raised(offsets, [("a", 1, ((0, 1),) * many)], []))
            self.assertIsNone(raised(offsets, [("a", 1, ((-FAR, FAR),) * many)], []))
        self.assertEqual(raised(offsets, [("a", 1, ((0, 1),) * 8)], []), VARIABLES)

    def test_bounds_go_just_so_far(self):
        for bounds in [((-FAR, FAR),), ((FAR, FAR),), ((-FAR, -FAR),), ((0, 0),), ((0, 1), (FAR - 1, FAR))]:
            self.assertIsNone(raised(offsets, [("a", 1, bounds)], []), bounds)
        for bounds in [
            ((-FAR - 1, 0),), ((0, FAR + 1),), ((1, 0),), ((0, -FAR),), ((1, 1), (5, 4)), ((True, 1),), ((0, True),), ((0, 1.0),), (0, 1), ([0, 1],),
            [(0, 1)], ((0,),), ((0, 1, 2),), None, 0, ((0, None),), "", ((),),
        ]:
            self.assertEqual(raised(offsets, [("a", 1, bounds)], []), VARIABLES, bounds)

    def test_sizes_names_and_how_many(self):
        for size in [1, 2, 15, 16]:
            self.assertIsNone(raised(offsets, [("a", size, ())], []))
        for size in [0, 17, -1, True, 1.0, None, "1", [1]]:
            self.assertEqual(raised(offsets, [("a", size, ())], []), VARIABLES)
        for name in ["a", "z", "abcdefgh", "zzzzzzzz"]:
            self.assertIsNone(raised(offsets, [(name, 1, ())], []))
        for name in ["", "abcdefghi", "A", "a1", "a_", "a b", " ", "\u00e4", "a\n", b"a", None, 1, ("a",), ["a"]]:
            self.assertEqual(raised(offsets, [(name, 1, ())], []), VARIABLES)
        some = [(name, 1, ()) for name in LONG]
        self.assertIsNone(raised(offsets, some[:40], []))
        self.assertIsNone(raised(offsets, tuple(some[:1]), ()))
        self.assertEqual(raised(offsets, some[:41], []), VARIABLES)
        self.assertEqual(raised(offsets, [], []), VARIABLES)
        self.assertEqual(raised(offsets, [A, X, ("a", 3, ())], []), VARIABLES)
        self.assertEqual(raised(offsets, [A, A], []), VARIABLES)
        for variable in [list(A), A[:2], A + (1,), None, "abc", {}]:
            self.assertEqual(raised(offsets, [X, variable], []), VARIABLES)

    def test_rows_and_members(self):
        right = [("a", (3,)), ("d", ())]
        self.assertIsNone(raised(offsets, THREE, [right] * 40))
        self.assertIsNone(raised(offsets, THREE, tuple([tuple(right)] * 40)))
        self.assertEqual(raised(offsets, THREE, [right] * 41), ROWS)
        self.assertIsNone(raised(offsets, THREE, [[("a", (3,))] * 10]))
        self.assertEqual(raised(offsets, THREE, [[("a", (3,))] * 11]), ROWS)
        self.assertEqual(raised(offsets, THREE, [[("a", (3,))]]), ROWS)
        self.assertEqual(raised(offsets, THREE, [[]]), ROWS)
        for row in [dict(right), {("a", ())}, "ad", None, iter(right), 5]:
            self.assertEqual(raised(offsets, THREE, [right, row]), ROWS)
        for rows in [None, {}, "", 5, set(), iter([])]:
            self.assertEqual(raised(offsets, THREE, rows), ROWS)
            self.assertEqual(raised(offsets, (), rows), VARIABLES)

    def test_members_just_within_and_beyond(self):
        some = [("a", 1, ((1, 10), (-FAR, FAR))), ("x", 3, ())]
        for right in [("a", ()), ("a", (1, -FAR)), ("a", (10, FAR)), ("a", (1, 0)), ("x", ())]:
            self.assertIsNone(raised(offsets, some, [[right, right]]), right)
        for wrong in [
            ("a", (0, 0)), ("a", (11, 0)), ("a", (1, FAR + 1)), ("a", (1, -FAR - 1)), ("a", (1,)), ("a", (1, 1, 1)), ("a", [1, 1]), ("a", 1), ("a", None),
            ("a", (True, 1)), ("a", (1, False)), ("a", (1.0, 1)), ("a", []), ("b", ()), ("", ()), ("x", (1,)), ("x", (0,)), ["a", ()], ("a",), ("a", (), ()), "ab",
            (b"a", ()), (None, ()), (["a"], ()), ({}, ()), (("a",), ()),
        ]:
            self.assertEqual(raised(offsets, some, [[("x", ()), wrong]]), ROWS, wrong)
            self.assertEqual(raised(offsets, some, [[wrong, ("x", ())]]), ROWS, wrong)


class Offsets(unittest.TestCase):

    def test_by_words(self):
        self.assertEqual(offsets(THREE, HOLD), [("a", "a", 0), ("d", "a", 1), ("x", "a", 1)])
        self.assertEqual(offsets(THREE, ()), [("a", "a", 0), ("d", "d", 0), ("x", "x", 0)])
        # Linked by x alone; a and d stand behind it.
        self.assertEqual(offsets((X, A, D), [[("x", ()), ("d", ())], [("x", ()), ("a", ())]]), [("x", "x", 0), ("a", "x", 0), ("d", "x", 0)])
        self.assertEqual(offsets((A, X, D), [[("d", (3,)), ("x", ())]]), [("a", "a", 0), ("x", "x", 6), ("d", "x", 0)])
        self.assertIsNone(offsets(THREE, HOLD + ((("a", (1,)), ("x", ())),)))
        self.assertIsNone(offsets(THREE, [[("a", (1,)), ("a", (2,))]]))
        self.assertEqual(offsets((A,), [[("a", (1,)), ("a", ()), ("a", (1,))]]), [("a", "a", 0)])

    def test_bounds_count_by_columns(self):
        some = [("m", 2, ((1, 3), (0, 4))), ("x", 1, ())]
        self.assertEqual(offsets(some, [[("m", (2, 3)), ("x", ())]]), [("m", "m", 0), ("x", "m", 2 * (1 + 3 * 3))])

    def test_against_bases_worked_out_one_by_one(self):
        can = 0
        for can_hold in (True, False):
            for _, some, rows in layouts(471, 300, can_hold):
                told = laid.offsets(some, rows)
                self.assertEqual(offsets(some, rows), told, (some, rows))
                can += told is not None
        self.assertGreater(can, 350)

    def test_far(self):
        some = [("a", 16, ((-FAR, FAR),) * 7), ("b", 3, ((-FAR, FAR),)), ("c", 1, ())]
        whole = 2 * FAR + 1
        told = offsets(some, [[("a", (FAR,) * 7), ("b", (0,))], [("c", ()), ("b", (FAR,))]])
        last = 16 * (whole ** 7 - 1)
        self.assertEqual(told, [("a", "a", 0), ("b", "a", last - 3 * FAR), ("c", "a", last + 3 * FAR)])

    def test_rows_in_another_order_change_nothing(self):
        for rng, some, rows in itertools.chain(layouts(472, 60), layouts(473, 60, False)):
            told, steps = offsets(some, rows), ring(some, rows)
            mixed = [rng.sample(row, len(row)) for row in rng.sample(rows, len(rows))]
            self.assertEqual(offsets(some, mixed), told)
            self.assertEqual(None if steps is None else len(steps), None if told is not None else len(ring(some, mixed)))

    def test_of_40_variables_and_rows(self):
        some = [(name, 1, ((0, 99),)) for name in LONG[:40]]
        rows = [[(LONG[at], (at,)), (LONG[at + 1], (0,))] for at in range(39)]
        told = offsets(some, rows)
        self.assertEqual([offset for _, _, offset in told], [at * (at - 1) // 2 for at in range(40)])
        self.assertEqual({group for _, group, _ in told}, {LONG[0]})
        self.assertEqual(len(ring(some, rows + [[(LONG[0], (5,)), (LONG[39], (99,))]])), 40)


class Bases(unittest.TestCase):

    def test_of_any_object(self):
        for thing in values():
            is_right = type(thing) in (list, tuple) and len(thing) == 1 and type(thing[0]) is int
            self.assertIs(are_bases((A,), (), thing), is_right, thing)
            self.assertIs(are_bases(THREE, HOLD, thing), False)
            for at in range(3):
                told = [5, 6, 6]
                told[at] = thing
                self.assertIs(are_bases(THREE, HOLD, told), type(thing) is int and thing == (5, 6, 6)[at], thing)

    def test_against_offsets(self):
        for rng, some, rows in layouts(474, 150):
            told = [offset for _, _, offset in offsets(some, rows)]
            groups = [group for _, group, _ in offsets(some, rows)]
            moves = {group: rng.choice([0, -7, 10 ** 40]) for group in groups}
            moved = [offset + moves[group] for offset, group in zip(told, groups)]
            for thing in (told, tuple(told), moved):
                self.assertIs(are_bases(some, rows, thing), True)
            for at in range(len(told)):
                other = list(moved)
                other[at] += rng.choice([-2, -1, 1, 2])
                self.assertIs(are_bases(some, rows, other), groups.count(groups[at]) == 1)
            self.assertIs(are_bases(some, rows, told + [0]), False)
            self.assertIs(are_bases(some, rows, told[1:]), False)

    def test_none_where_rows_cannot_hold(self):
        rows = [[("a", (1,)), ("a", (2,))]]
        for thing in [(0, 0, 0), [1, 2, 3]]:
            self.assertIs(are_bases(THREE, rows, thing), False)

    def test_bools_are_no_integers(self):
        self.assertIs(are_bases(THREE, HOLD, (0, 1, 1)), True)
        for thing in [(False, 1, 1), (0, True, 1), (0, 1, True), [0, 1, 1.0], (0, 1, None)]:
            self.assertIs(are_bases(THREE, HOLD, thing), False)


class Idle(unittest.TestCase):

    def test_by_words(self):
        self.assertEqual(idle(THREE, HOLD), [])
        self.assertEqual(idle(THREE, HOLD + HOLD), [2, 3])
        self.assertEqual(idle(THREE, HOLD + ((("a", (2,)), ("x", ())),)), [2])
        self.assertIsNone(idle(THREE, HOLD + ((("a", (3,)), ("x", ())),)))
        self.assertEqual(idle(THREE, [[("a", (2,)), ("a", (2,))]]), [0])
        self.assertEqual(idle(THREE, [[("a", (1,)), ("a", ())], HOLD[0]]), [0])
        self.assertEqual(idle(THREE, []), [])
        # The first two follow from nothing, the third one from both, the last one links a further variable.
        some = [(name, 1, ((0, 9),)) for name in "abcd"]
        rows = [[("a", (3,)), ("b", (1,))], [("b", (4,)), ("c", (0,))], [("a", (7,)), ("c", (1,))], [("a", (6,)), ("c", ()), ("d", ())]]
        self.assertEqual(idle(some, rows), [2])
        self.assertEqual(idle(some, rows[::-1]), [1, 3])

    def test_against_links_one_by_one(self):
        for can_hold in (True, False):
            for _, some, rows in layouts(475, 250, can_hold):
                self.assertEqual(idle(some, rows), laid.idle(some, rows), (some, rows))
                if offsets(some, rows) is not None:
                    self.assertEqual(idle(some, rows + rows)[-len(rows):], list(range(len(rows), 2 * len(rows)))[-len(rows):] if rows else [])

    def test_without_idle_rows_offsets_are_the_same(self):
        for _, some, rows in layouts(476, 150):
            left = [row for at, row in enumerate(rows) if at not in idle(some, rows)]
            self.assertEqual(offsets(some, left), offsets(some, rows))


class Rings(unittest.TestCase):

    def lines(self, some, rows):
        return list(enumerate(laid.lines(some, rows)))

    def test_is_ring_by_words(self):
        rows = [[("a", (1,)), ("d", ()), ("a", (2,))], [("d", (0,)), ("a", (1,))], [("x", ()), ("a", (1,)), ("x", ())]]
        for thing, is_right in [
            ([(0, 0, 2)], True), (((0, 2, 0),), True), ([(0, 0, 1)], False), ([(0, 0, 1), (1, 0, 1)], False), ([(0, 2, 1), (1, 0, 1)], True),
            ([(0, 0, 1), (0, 1, 2)], True), ([(0, 0, 1), (0, 1, 0)], False), ([(2, 0, 2)], False), ([(2, 0, 1), (2, 1, 2)], False),
            ([(0, 0, 0)], False), ([], False), ((), False), ([(0, 0, 3)], False), ([(3, 0, 1)], False), ([(0, -1, 0)], False), ([(-1, 0, 1)], False),
            ([[0, 0, 2]], False), ([(0, 0, 2), (0, 0, 2)], True), ([(0, 0, 2), (0, 2, 0)], False), ([(0, 0, 2)] * 500, True), ((0, 0, 2), False),
            ([(False, 0, 2)], False), ([(0, False, 2)], False), ([(1, 1, True)], False), ([(0, 0, 2.0)], False), ([(0, 2)], False), ([(0, 0, 2, 0)], False),
            ([(0, 0, 2), None], False), ({(0, 0, 2)}, False), ({(0, 0, 2): 1}, False), (None, False), (iter([(0, 0, 2)]), False),
            ([(0, 2, 1), (1, 0, 1), (2, 1, 0), (2, 0, 1)], True), ([(1, 0, 1), (0, 2, 1)], True), ([(0, 2, 1), (2, 0, 1)], False),
        ]:
            self.assertIs(is_ring(THREE, rows, thing), is_right, thing)

    def test_is_ring_of_any_object(self):
        rows = [[("a", (1,)), ("a", (2,))]]
        self.assertIs(is_ring(THREE, rows, ((0, 0, 1),)), True)
        for thing in values():
            self.assertIs(is_ring(THREE, rows, thing), False)
            for step in [(thing, 0, 1), (0, thing, 1), (0, 0, thing), thing]:
                is_right = type(step) is tuple and step in [(0, 0, 1), (0, 1, 0)] and all(type(number) is int for number in step)
                self.assertIs(is_ring(THREE, rows, [step]), is_right, step)
                self.assertIs(is_ring(THREE, rows, [(0, 0, 1), step]), is_right and step != (0, 1, 0), step)

    def test_is_ring_against_walks(self):
        for rng, some, rows in layouts(481, 200, False):
            lines = self.lines(some, rows)
            found = laid.steps(lines)
            for _ in range(15):
                walk = [rng.choice(found)] if found else []
                while walk and len(walk) < 8 and rng.random() < 0.7:
                    walk.append(rng.choice([step for step in found if rng.random() < 0.1 or step[1] == walk[-1][2]] or found))
                thing = [step[0] for step in walk]
                self.assertIs(is_ring(some, rows, thing), laid.is_ring(lines, thing))

    def test_no_ring_has_fewer_steps(self):
        lengths = []
        for can_hold in (True, False):
            for _, some, rows in layouts(482, 350, can_hold):
                lines = self.lines(some, rows)
                told = ring(some, rows)
                if told is None:
                    self.assertIsNotNone(offsets(some, rows))
                    self.assertIsNone(laid.fewest_steps(lines, 4))
                    continue
                lengths.append(len(told))
                self.assertIsNone(offsets(some, rows))
                self.assertIs(type(told), tuple)
                self.assertIs(is_ring(some, rows, told), True)
                self.assertIs(laid.is_ring(lines, told), True)
                self.assertEqual(laid.fewest_steps(lines), len(told), (some, rows, told))
        self.assertTrue({1, 2, 3} <= set(lengths))

    def test_rings_of_many_steps(self):
        for many in range(2, 9):
            some = [(name, 1, ((0, 9),)) for name in laid.NAMES[:many]]
            rows = [[(laid.NAMES[at], (at,)), (laid.NAMES[(at + 1) % many], (1,))] for at in range(many)]
            told = ring(some, rows)
            units = sum(range(many)) - many
            self.assertEqual(told is None, units == 0)
            if told is not None:
                self.assertEqual(len(told), many)
                self.assertIs(is_ring(some, rows, told), True)
            # A chord that fits makes the ring shorter.
            if many == 8:
                rows.append([("a", (5,)), ("e", (6 - (0 + 1 + 2 + 3 - 4) - 1,))])
                self.assertLessEqual(len(ring(some, rows)), 5)
                self.assertEqual(len(ring(some, rows)), laid.fewest_steps(self.lines(some, rows), 8))

    def test_a_row_more_never_makes_a_ring_longer(self):
        for rng, some, rows in layouts(483, 150, False):
            told = ring(some, rows)
            more = ring(some, rows + laid.any_rows(rng, some, 2))
            if told is not None:
                self.assertLessEqual(len(more), len(told))

    def test_far(self):
        some = [("a", 7, ((-FAR, FAR),) * 3), ("b", 16, ((0, FAR),))]
        rows = [[("a", (FAR, FAR, FAR)), ("b", (FAR,))], [("a", (FAR, FAR, FAR - 1)), ("b", (0,))]]
        self.assertEqual(len(ring(some, rows)), 2)
        rows = [[("a", (16 - FAR, -FAR, -FAR)), ("b", (FAR,))], [("a", ()), ("b", (FAR - 7,))]]
        self.assertIsNone(ring(some, rows))
        self.assertIs(are_bases(some, rows, (16 * (FAR - 7), 0)), True)


class Shared(unittest.TestCase):

    def test_against_all_units(self):
        for rng, some, rows in layouts(491, 300):
            for one in some:
                for other in some:
                    names = (one[0], other[0])
                    with self.subTest(some=some, rows=rows, names=names):
                        self.assertEqual(shared(some, rows, *names), laid.shared(some, rows, *names))
                        both, twins = laid.pairs(some, rows, *names)
                        self.assertEqual(pairs_number(some, rows, *names), len(both))
                        self.assertEqual(twins_number(some, rows, *names), len(twins))
                        for number in range(laid.many(one)):
                            found = [to for at, to in both if at == number]
                            told = (found[0], found[-1]) if found else None
                            self.assertEqual(touched(some, rows, one[0], number, other[0]), told)

    def test_the_same_name_twice(self):
        for variable in [A, D, X, ("m", 5, ((0, 2), (1, 4)))]:
            many = laid.many(variable)
            name, size, _ = variable
            told = ([variable], [], name, name)
            self.assertEqual(shared(*told), (0, size * many))
            self.assertEqual((pairs_number(*told), twins_number(*told)), (many, many))
            for number in range(many):
                self.assertEqual(touched([variable], [], name, number, name), (number, number))

    def test_two_groups(self):
        for names in itertools.permutations("adx", 2):
            self.assertIsNone(shared(THREE, [], *names))
            self.assertIsNone(touched(THREE, [], names[0], 0, names[1]))
            self.assertEqual((pairs_number(THREE, [], *names), twins_number(THREE, [], *names)), (0, 0))

    def test_of_one_group_with_nothing_shared(self):
        some = [("a", 1, ((1, 3),)), ("b", 1, ((1, 9),)), ("c", 2, ((1, 2),))]
        rows = [[("a", (1,)), ("b", (1,))], [("b", (8,)), ("c", ())]]
        self.assertIsNone(shared(some, rows, "a", "c"))
        self.assertIsNone(touched(some, rows, "a", 2, "c"))
        self.assertEqual(pairs_number(some, rows, "c", "a"), 0)
        self.assertEqual(twins_number(some, rows, "a", "c"), 0)
        self.assertEqual([touched(some, rows, "b", number, "c") for number in range(6, 9)], [None, (0, 0), (0, 0)])

    def test_far(self):
        some = [("a", 6, ((1, FAR),)), ("b", 4, ((1, FAR),)), ("c", 6, ((-FAR, FAR), (0, FAR)))]
        rows = [[("a", (11,)), ("b", (1,))], [("c", (-FAR, 0)), ("a", (FAR,))]]
        self.assertEqual(shared(some, rows, "a", "b"), (60, 4 * FAR))
        self.assertEqual(shared(some, rows, "b", "a"), (0, 4 * FAR))
        # In 12 units three elements of b and two of a make four pairs; FAR is 1 more than a multiple of 3.
        self.assertEqual(pairs_number(some, rows, "a", "b"), FAR // 3 * 4 + 1)
        self.assertEqual(twins_number(some, rows, "a", "b"), 0)
        self.assertEqual(shared(some, rows, "a", "c"), (6 * (FAR - 1), 6))
        self.assertEqual((pairs_number(some, rows, "c", "a"), twins_number(some, rows, "c", "a")), (1, 1))
        self.assertEqual(touched(some, rows, "b", FAR - 1, "a"), (10 + (4 * FAR - 4) // 6, 10 + (4 * FAR - 1) // 6))
        self.assertEqual(touched(some, rows, "c", 0, "a"), (FAR - 1, FAR - 1))
        self.assertIsNone(touched(some, rows, "c", (2 * FAR + 1) * (FAR + 1) - 1, "a"))
        rows = [[("c", ()), ("a", ())]]
        self.assertEqual(twins_number(some, rows, "c", "a"), FAR)
        self.assertEqual(twins_number(some, rows, "c", "c"), (2 * FAR + 1) * (FAR + 1))

    def test_far_against_near_ones(self):
        rng = chosen.generator(492)
        for number in range(200):
            size, other = rng.choice([(4, 4), (5, 5), (rng.randint(1, 16), rng.randint(1, 16))])
            shift, period = rng.randint(0, 40), math.lcm(size, other)
            found = []
            for turns in (1, 2, FAR // 100000):
                # The first one ends ahead of the other one; with each turn as many pairs come to the others.
                some = [("a", size, ((1, 60 + turns * (period // size)),)), ("b", other, ((1, 2000 + turns * period),)), ("x", 1, ((0, 40),))]
                rows = [[("a", ()), ("x", ())], [("b", ()), ("x", (shift,))]]
                found.append((pairs_number(some, rows, "a", "b"), twins_number(some, rows, "a", "b")))
                if turns == 1 and number < 10:
                    self.assertEqual(found[0], tuple(len(row) for row in laid.pairs(some, rows, "a", "b")))
            for first, second, far in zip(*found):
                self.assertEqual(far - first, (second - first) * (FAR // 100000 - 1))

    def test_errors_in_their_order(self):
        rows = [[("a", (1,)), ("a", (2,))]]
        functions = [
            (shared, ["one", "other"]), (touched, ["one", 0, "other"]), (pairs_number, ["one", "other"]), (twins_number, ["one", "other"]),
        ]
        for function, given in functions:
            right = ["a" if name in ("one", "other") else name for name in given]
            self.assertIsNone(raised(function, THREE, HOLD, *right))
            self.assertEqual(raised(function, (), None, *[None for _ in given]), VARIABLES)
            self.assertEqual(raised(function, THREE, None, *[None for _ in given]), ROWS)
            self.assertEqual(raised(function, THREE, rows, *[None for _ in given]), RING)
            for value in values() + ["b", "A", "ax"]:
                if value == "a" and type(value) is str:
                    continue
                wrong = [value if name == "one" else name for name in given]
                self.assertEqual(raised(function, THREE, HOLD, *wrong), (InvalidArgument, "one"))
                wrong = [value if name == "other" else "a" if name == "one" else None for name in given]
                self.assertEqual(raised(function, THREE, HOLD, *wrong), (InvalidArgument, "other"))

    def test_numbers_of_elements(self):
        for number in range(10):
            self.assertIsNone(raised(touched, THREE, HOLD, "a", number, "d"))
        for number in [10, -1, FAR, True, False, 1.0, None, "1", [1], (1,)]:
            self.assertEqual(raised(touched, THREE, HOLD, "a", number, "d"), (InvalidArgument, "number"))
            self.assertEqual(raised(touched, THREE, HOLD, "a", number, "e"), (InvalidArgument, "other"))
        self.assertEqual(raised(touched, THREE, HOLD, "x", 1, "x"), (InvalidArgument, "number"))


class Facts(unittest.TestCase):

    def test_of_51(self):
        for rng, some, rows in layouts(511, 150):
            for one, other in itertools.product(some, some):
                told = shared(some, rows, one[0], other[0])
                back = shared(some, rows, other[0], one[0])
                self.assertEqual(None if told is None else told[1], None if back is None else back[1])
                self.assertEqual(pairs_number(some, rows, one[0], other[0]), pairs_number(some, rows, other[0], one[0]))
                self.assertEqual(twins_number(some, rows, one[0], other[0]), twins_number(some, rows, other[0], one[0]))
                if told is not None:
                    ends = {at * one[1] for at in range(laid.many(one))} | {told[0] - back[0] + at * other[1] for at in range(laid.many(other))}
                    inner = [end for end in ends if told[0] < end < sum(told)]
                    self.assertEqual(pairs_number(some, rows, one[0], other[0]), 1 + len(inner))

    def test_lists_and_tuples(self):
        self.assertEqual(offsets(list(THREE), [list(row) for row in HOLD]), offsets(THREE, HOLD))

    def test_examples(self):
        self.assertEqual([shared(THREE, HOLD, "a", "d"), touched(THREE, HOLD, "a", 2, "d")], [(1, 8), (0, 0)])
        self.assertEqual(touched(THREE, HOLD, "d", 0, "a"), (1, 2))
        self.assertEqual([pairs_number(THREE, HOLD, "a", "d"), twins_number(THREE, HOLD, "a", "x")], [8, 1])
        self.assertIsNotNone(ring(THREE, HOLD + ((("a", (1,)), ("x", ())),)))
        self.assertIn(ring(THREE, ((("a", (1,)), ("a", (2,))),)), (((0, 0, 1),), ((0, 1, 0),)))

    def test_defined_where_the_interface_lists_them(self):
        for name in "offsets idle are_bases ring is_ring shared touched pairs_number twins_number".split():
            self.assertEqual(getattr(sharing, name).__module__, "sectionwise.sharing")


if __name__ == "__main__":
    unittest.main()
