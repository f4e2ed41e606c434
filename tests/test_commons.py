"""Promises 52 to 57: program units, refusals, layouts, and blocks of several units."""

import itertools
import unittest

import blocks
import chosen
import laid
from sectionwise import commons
from sectionwise.commons import across, elements_across, layout, lengths, refusal, storage, unlike
from sectionwise.errors import InvalidArgument, InvalidLayout
from sectionwise.sharing import idle, shared
from wrong import raised, values

FAR = 10 ** 30
WHOLE = 2 * FAR + 1
UNIT = (InvalidLayout, "unit")
BLOCKS = (InvalidLayout, "blocks")
REFUSED = (InvalidLayout, "refused")
THREE = (("a", 1, ((1, 6),)), ("d", 2, ()), ("e", 1, ((1, 9),)))
ONE = (THREE, (("c", ("a", "d")),), ((("e", (1,)), ("a", (5,))),))
TWO = ((("x", 2, ((1, 3),)), ("y", 2, ((1, 2),))), (("c", ("x", "y")),), ())
SINGLE = [(name, 1, ()) for name in ["v" + letter for letter in "abcdefghijklmnopqrstuvwxyz"]]


def with_blocks(*told):
    return (THREE, told, ())


def single(block, many=1):
    """A unit with one block of so many units."""
    return ([("v", many, ())], [(block, ("v",))], [])


class Units(unittest.TestCase):

    def test_of_three_parts(self):
        self.assertIsNone(raised(refusal, ONE))
        for unit in values() + [ONE[:2], ONE + ((),), list(ONE), {}, (ONE,)]:
            if type(unit) is tuple and len(unit) == 3:
                self.assertEqual(raised(refusal, unit), (InvalidLayout, "variables"))
            else:
                self.assertEqual(raised(refusal, unit), UNIT)
                self.assertEqual(raised(layout, unit), UNIT)

    def test_errors_in_their_order(self):
        for function in (refusal, layout):
            self.assertEqual(raised(function, (None, None, None)), (InvalidLayout, "variables"))
            self.assertEqual(raised(function, (THREE, None, None)), BLOCKS)
            self.assertEqual(raised(function, (THREE, (), None)), (InvalidLayout, "rows"))
            self.assertEqual(raised(function, (THREE, (), [[("x", ()), ("a", ())]])), (InvalidLayout, "rows"))
            self.assertIsNone(raised(function, (THREE, (), ())))

    def test_blocks(self):
        for told in [[], (), [("c", ("a",))], [("", ("a", "d", "e"))], (("abcdefgh", ("e",)), ("", ("d",))), [("a", ("a",))]]:
            self.assertIsNone(raised(refusal, (THREE, told, ())))
        for block in [
            ("C", ("a",)), ("abcdefghi", ("a",)), ("c1", ("a",)), (" ", ("a",)), (None, ("a",)), (b"", ("a",)), (0, ("a",)), (["c"], ("a",)), ("c", ["a"]), ("c", ()),
            ("c", ("x",)), ("c", ("a", "a")), ("c", ("a", None)), ("c", (["a"],)), ("c", "a"), ("c",), ("c", ("a",), ()), ["c", ("a",)], "c", None, ("c", {"a"}), ("c", (b"a",)),
        ]:
            self.assertEqual(raised(refusal, (THREE, [block], ())), BLOCKS, block)
        self.assertEqual(raised(refusal, with_blocks(("c", ("a",)), ("c", ("d",)))), BLOCKS)
        self.assertEqual(raised(refusal, with_blocks(("", ("a",)), ("", ("d",)))), BLOCKS)
        self.assertEqual(raised(refusal, with_blocks(("c", ("a",)), ("b", ("d", "a")))), BLOCKS)
        for told in [None, {}, {"c": ("a",)}, "", {("c", ("a",))}, iter([]), 5]:
            self.assertEqual(raised(refusal, (THREE, told, ())), BLOCKS)

    def test_how_many_blocks_and_names(self):
        names = [name for name, _, _ in SINGLE]
        told = [("b" + name, (name,)) for name in names]
        self.assertIsNone(raised(refusal, (SINGLE, told[:10], [])))
        self.assertEqual(raised(refusal, (SINGLE, told[:11], [])), BLOCKS)
        many = [(first + second, 1, ()) for first in "abcde" for second in "abcdefgh"]
        self.assertIsNone(raised(refusal, (many, [("c", tuple(name for name, _, _ in many))], [])))
        self.assertEqual(layout((many, [("c", tuple(name for name, _, _ in many))], []))[0][1], 40)


class Refusals(unittest.TestCase):

    def test_by_words(self):
        for unit, told in [
            (ONE, None), ((THREE, (), ()), None), (with_blocks(("c", ("d",)), ("", ("e", "a"))), None),
            ((THREE, ONE[1], ((("e", (2,)), ("a", (1,))),)), ("ahead", "c", "e")),
            ((THREE, ONE[1], ((("e", (1,)), ("a", (1,))),)), None),
            ((THREE, (("c", ("a",)), ("", ("d",))), ((("a", (1,)), ("d", ())),)), ("joined", "c", "")),
            ((THREE, (("c", ("a",)), ("", ("d",))), ((("a", (1,)), ("e", ())), (("d", ()), ("e", (9,))))), ("joined", "c", "")),
            # Joined is told ahead of ahead, and a ring ahead of both.
            ((THREE, (("c", ("a",)), ("", ("d",))), ((("a", (1,)), ("d", ()), ("e", (2,))),)), ("joined", "c", "")),
            ((THREE, (("c", ("a",)),), ((("d", ()), ("e", (9,))), (("e", (5,)), ("a", (4,))))), ("ahead", "c", "e")),
            ((THREE, (("c", ("e",)),), ((("a", (4,)), ("e", (3,))), (("d", ()), ("a", (2,))))), ("ahead", "c", "a")),
            # The least block of those that are joined, then the least other one.
            ((SINGLE, [("x", ("va",)), ("y", ("vb",)), ("z", ("vc",)), ("w", ("vd",))],
              [[("vd", ()), ("vb", ())], [("vb", ()), ("vc", ())]]), ("joined", "y", "z")),
            ((SINGLE, [("x", ("va",)), ("y", ("vb",)), ("z", ("vc",)), ("w", ("vd",))],
              [[("vc", ()), ("vb", ())], [("va", ()), ("vd", ())]]), ("joined", "x", "w")),
        ]:
            self.assertEqual(refusal(unit), told, unit)

    def check_ring(self, unit, told):
        self.assertEqual(told[0], "ring")
        self.assertIs(type(told), tuple)
        self.assertIs(type(told[1]), tuple)
        self.assertTrue(laid.is_ring(blocks.lines(unit), told[1]), (unit, told))

    def test_rings(self):
        for rows, blocks_told, many in [
            (((("a", (1,)), ("a", (2,))),), ONE[1], 1), (((("d", ()), ("a", (6,))),), ONE[1], 2), (((("d", ()), ("a", (1,)), ("a", ()), ("e", (1,))),), ONE[1], 2),
            (((("d", ()), ("e", (9,))), (("e", (1,)), ("a", (1,)))), ONE[1], 3), (((("d", ()), ("e", (9,))), (("e", (3,)), ("a", (1,)))), ONE[1], None),
            (((("a", (1,)), ("e", (1,))), (("e", (3,)), ("a", (4,)))), (), 2), (((("d", ()), ("a", (5,))),), [("c", ("a", "e", "d"))], 2),
        ]:
            unit = (THREE, blocks_told, rows)
            told = refusal(unit)
            if many is None:
                self.assertEqual(told, ("ahead", "c", "e"))
                continue
            self.check_ring(unit, told)
            self.assertEqual(len(told[1]), many, unit)

    def test_steps_of_a_block_are_told_by_its_name(self):
        unit = (THREE, ONE[1], ((("d", ()), ("a", (6,))),))
        steps = refusal(unit)[1]
        self.assertEqual(sorted([step[0] for step in steps], key=str), [0, "c"])
        self.assertIn(steps, [
            tuple(walk[at:] + walk[:at]) for walk in ([("c", 0, 1), (0, 0, 1)], [("c", 1, 0), (0, 1, 0)]) for at in range(2)
        ])

    def test_against_units_one_by_one(self):
        rng = chosen.generator(531)
        found = {}
        for _ in range(900):
            unit = blocks.unit(rng)
            told, plain = refusal(unit), blocks.refusal(unit)
            if plain is not None and plain[0] == "ring":
                self.check_ring(unit, told)
                told = ("ring", len(told[1]))
            self.assertEqual(told, plain, unit)
            self.assertEqual(layout(unit), blocks.layout(unit), unit)
            found[None if plain is None else plain[0]] = True
        self.assertEqual(set(found), {None, "ring", "joined", "ahead"})

    def test_without_rows_never(self):
        rng = chosen.generator(532)
        for _ in range(200):
            variables, told, _ = blocks.unit(rng)
            self.assertIsNone(refusal((variables, told, [])))
            self.assertIsNotNone(layout((variables, told, ())))

    def test_long_rings(self):
        names = [name for name, _, _ in SINGLE[:20]]
        some = [(name, 1, ((0, 9),)) for name in names]
        rows = [[(names[at], (1,)), (names[at + 1], (0,))] for at in range(1, 19)]
        unit = (some, [("c", (names[0], names[1])), ("", (names[19],))], rows + [[(names[19], (3,)), (names[0], (9,))]])
        told = refusal(unit)
        self.check_ring(unit, told)
        self.assertEqual(len(told[1]), 20)


class Layouts(unittest.TestCase):

    def test_by_words(self):
        self.assertEqual(layout(ONE), [("c", 13, (("a", 0), ("d", 6), ("e", 4)))])
        self.assertEqual(layout(TWO), [("c", 10, (("x", 0), ("y", 6)))])
        self.assertEqual(layout((THREE, (), ONE[2])), [])
        self.assertEqual(layout(with_blocks(("c", ("d", "a")), ("", ("e",)))), [("c", 8, (("a", 2), ("d", 0))), ("", 9, (("e", 0),))])
        # A row within what is there makes nothing longer.
        self.assertEqual(layout((THREE, [("", ("e",))], [[("e", (2,)), ("a", ())], [("d", ()), ("a", (6,))]])), [("", 9, (("a", 1), ("d", 6), ("e", 0)))])
        self.assertIsNone(layout((THREE, ONE[1], ((("e", (2,)), ("a", (1,))),))))
        self.assertIsNone(layout((THREE, ONE[1], ((("d", ()), ("a", (6,))),))))

    def test_far(self):
        some = [("a", 16, ((-FAR, FAR),) * 7), ("b", 3, ((-FAR, FAR),)), ("c", 7, ((0, FAR), (1, FAR)))]
        unit = (some, [("", ("b", "a"))], [[("c", (FAR, FAR)), ("a", (FAR,) * 7)]])
        last = 3 * WHOLE + 16 * (WHOLE ** 7 - 1)
        before = last - 7 * ((FAR + 1) * FAR - 1)
        self.assertEqual(layout(unit), [("", last + 16, (("a", 3 * WHOLE), ("b", 0), ("c", before)))])
        self.assertEqual(refusal((some, [("", ("b",))], [[("b", ()), ("c", (0, 2))]])), ("ahead", "", "c"))

    def test_idle_rows_change_no_layout(self):
        rng = chosen.generator(541)
        for _ in range(200):
            variables, told, rows = blocks.right_unit(rng, rng.choice(blocks.BLOCKS))
            lines = [[(name, units) for name, units in members] for _, members in blocks.lines((variables, told, rows))]
            left = []
            for row in rows:
                names = [variable[0] for variable in variables]
                ahead = [members for _, members in blocks.lines((variables, told, left))]
                both = [members for _, members in blocks.lines((variables, told, left + [row]))]
                if laid.bases(names, ahead) != laid.bases(names, both):
                    left.append(row)
            self.assertEqual(layout((variables, told, left)), layout((variables, told, rows)), lines)
            self.assertEqual(layout((variables, told, rows + rows)), layout((variables, told, rows)))


class Across(unittest.TestCase):

    def test_by_words(self):
        self.assertEqual(across(ONE, TWO, "c"), [("a", "x", 0, 6), ("d", "y", 6, 2), ("e", "x", 4, 2), ("e", "y", 6, 4)])
        self.assertEqual(elements_across(ONE, "e", 3, TWO, "c"), [("y", 0, 0)])
        self.assertEqual(elements_across(ONE, "e", 8, TWO, "c"), [])
        self.assertEqual(elements_across(TWO, "x", 2, ONE, "c"), [("a", 4, 5), ("e", 0, 1)])
        self.assertEqual(elements_across(ONE, "e", 1, TWO, "c"), [("x", 2, 2)])

    def test_against_units_one_by_one(self):
        rng = chosen.generator(551)
        for _ in range(300):
            block = rng.choice(blocks.BLOCKS)
            one, other = blocks.right_unit(rng, block), blocks.right_unit(rng, block)
            told = across(one, other, block)
            self.assertEqual(told, blocks.across(one, other, block), (one, other, block))
            down = blocks.put_down(one, block)
            for name in down:
                for number in range(len(down[name])):
                    told = elements_across(one, name, number, other, block)
                    self.assertEqual(told, blocks.elements_across(one, name, number, other, block), (one, other, block, name, number))

    def test_turned_about(self):
        rng = chosen.generator(552)
        for _ in range(150):
            block = rng.choice(blocks.BLOCKS)
            one, other = blocks.right_unit(rng, block), blocks.right_unit(rng, block)
            turned = sorted((name, other_name, start, many) for other_name, name, start, many in across(one, other, block))
            self.assertEqual(turned, sorted(across(other, one, block)))
            down = blocks.put_down(one, block)
            for name in down:
                for number in range(len(down[name])):
                    for other_name, first, last in elements_across(one, name, number, other, block):
                        for its in range(first, last + 1):
                            back = {told[0]: told[1:] for told in elements_across(other, other_name, its, one, block)}
                            self.assertTrue(back[name][0] <= number <= back[name][1])

    def test_within_one_unit(self):
        rng = chosen.generator(553)
        for _ in range(150):
            block = rng.choice(blocks.BLOCKS)
            unit = blocks.right_unit(rng, block)
            names = dict(unit[1])[block]
            table = {variable[0]: variable for variable in unit[0]}
            # The block as a row of shared storage: a further variable reaches all of its variables.
            ahead, row = 0, []
            for name in names:
                row.append([("whole", (ahead,)), (name, ())])
                ahead += table[name][1] * laid.many(table[name])
            some = list(unit[0]) + [("whole", 1, ((0, ahead),))]
            told = {(name, other): many for name, other, _, many in across(unit, unit, block)}
            down = blocks.put_down(unit, block)
            for name, other in itertools.product(down, down):
                both = shared(some, list(unit[2]) + row, name, other)
                self.assertEqual(told.get((name, other)), None if both is None else both[1])
            self.assertEqual(idle(some, row), [])

    def test_far(self):
        one = ([("a", 6, ((1, FAR),)), ("b", 1, ((-FAR, FAR),) * 2)], [("", ("a", "b"))], [])
        other = ([("x", 4, ((1, FAR),)), ("y", 16, ((0, FAR),) * 3)], [("", ("x",))], [[("x", (FAR,)), ("y", (0, 0, 0))]])
        self.assertEqual(across(one, other, ""), [
            ("a", "x", 0, 4 * FAR), ("a", "y", 4 * FAR - 4, 2 * FAR + 4), ("b", "y", 6 * FAR, WHOLE ** 2),
        ])
        self.assertEqual(elements_across(one, "b", WHOLE ** 2 - 1, other, ""), [
            ("y", (6 * FAR + WHOLE ** 2 - 1 - 4 * FAR + 4) // 16, (6 * FAR + WHOLE ** 2 - 1 - 4 * FAR + 4) // 16),
        ])
        self.assertEqual(elements_across(other, "y", (FAR + 1) ** 3 - 1, one, ""), [])

    def test_errors_in_their_order(self):
        refused = (THREE, ONE[1], ((("e", (2,)), ("a", (1,))),))
        bad = (THREE, (), None)
        for one, other, told in [
            (None, None, UNIT), ((1, 2, 3), None, (InvalidLayout, "variables")), (refused, None, REFUSED), (ONE, None, UNIT), (ONE, refused, REFUSED),
            (ONE, bad, (InvalidLayout, "rows")), (bad, refused, (InvalidLayout, "rows")), (refused, bad, REFUSED), (ONE, TWO, (InvalidArgument, "block")),
            (TWO, ONE, (InvalidArgument, "block")),
        ]:
            for block in [None, "x", "b", "", ["c"], ("c",), 1, True, b"c", {}, "C", THREE]:
                self.assertEqual(raised(across, one, other, block), told)
                self.assertEqual(raised(elements_across, one, None, None, other, block), told)
        for block in values():
            self.assertEqual(raised(across, ONE, TWO, block), (InvalidArgument, "block"))

    def test_a_block_of_one_unit_alone(self):
        one, other = with_blocks(("c", ("a",)), ("b", ("d",))), with_blocks(("c", ("a",)), ("", ("d",)))
        self.assertIsNone(raised(across, one, other, "c"))
        for block in ("b", "", "d"):
            self.assertEqual(raised(across, one, other, block), (InvalidArgument, "block"))
            self.assertEqual(raised(across, other, one, block), (InvalidArgument, "block"))

    def test_names_and_numbers(self):
        one = (THREE, (("c", ("a",)), ("b", ("d",))), ())
        self.assertIsNone(raised(elements_across, one, "a", 5, TWO, "c"))
        for name in values() + ["d", "e", "x", "b"]:
            if name != "a" or type(name) is not str:
                self.assertEqual(raised(elements_across, one, name, None, TWO, "c"), (InvalidArgument, "name"))
        for number in [-1, 6, FAR, True, False, 1.0, None, "1", (1,), [1], []]:
            self.assertEqual(raised(elements_across, one, "a", number, TWO, "c"), (InvalidArgument, "number"))
        for number in range(9):
            self.assertIsNone(raised(elements_across, ONE, "e", number, TWO, "c"))


class Lengths(unittest.TestCase):

    def test_by_words(self):
        units = [single("c", 3), single("", 4), single("b", 5), single("c", 3), single("", 5)]
        self.assertEqual(lengths(units), [("c", (3, None, None, 3, None)), ("", (None, 4, None, None, 5)), ("b", (None, None, 5, None, None))])
        self.assertIsNone(unlike(units))
        self.assertEqual(storage(units), [("", 5), ("b", 5), ("c", 3)])
        units.append(single("b", 6))
        self.assertEqual(unlike(units), ("b", 2, 5))
        self.assertEqual(storage(units), [("", 5), ("b", 6), ("c", 3)])
        units = [single("b", 2)] + units + [single("c", 2)]
        self.assertEqual(unlike(units), ("b", 0, 3))
        self.assertEqual(unlike(units[1:]), ("c", 0, 6))
        self.assertEqual(storage([ONE, TWO]), [("c", 13)])
        self.assertEqual(unlike([ONE, TWO]), ("c", 0, 1))
        self.assertEqual(unlike([single(""), ONE, single("", 7), TWO]), ("c", 1, 3))
        self.assertEqual([lengths([(THREE, (), ())]), unlike([(THREE, (), ())]), storage([(THREE, (), ())])], [[], None, []])

    def test_against_units_one_by_one(self):
        rng = chosen.generator(561)
        for _ in range(120):
            units = []
            while len(units) < rng.randint(1, 5):
                unit = blocks.unit(rng, wrong=0.1)
                if blocks.refusal(unit) is None:
                    units.append(unit)
            found = [{block: length for block, length, _ in blocks.layout(unit)} for unit in units]
            order = list(dict.fromkeys(block for told in found for block in told))
            rows = [(block, tuple(told.get(block) for told in found)) for block in order]
            self.assertEqual(lengths(units), rows)
            self.assertEqual(lengths(tuple(units)), rows)
            self.assertEqual(storage(units), sorted((block, max(one for one in row if one is not None)) for block, row in rows))
            wrong = [
                (block, at, to) for block, row in rows if block for at in range(len(row)) for to in range(at + 1, len(row))
                if None not in (row[at], row[to]) and row[at] != row[to] and all(one is None for one in row[:at])
            ]
            self.assertEqual(unlike(units), wrong[0] if wrong else None)

    def test_one_to_twenty_units(self):
        for function in (lengths, unlike, storage):
            for many in (1, 2, 19, 20):
                self.assertIsNone(raised(function, [ONE] * many))
                self.assertIsNone(raised(function, tuple([ONE] * many)))
            for units in [[], (), [ONE] * 21, (ONE,) * 21, [None] * 21, None, {}, {1: ONE}, "ab", iter([ONE]), 5, set()]:
                self.assertEqual(raised(function, units), (InvalidLayout, "units"))
        self.assertEqual(lengths([ONE] * 20), [("c", (13,) * 20)])

    def test_errors_unit_by_unit(self):
        refused = (THREE, ONE[1], ((("e", (2,)), ("a", (1,))),))
        for function in (lengths, unlike, storage):
            for units, told in [
                ([None], UNIT), ([ONE, None], UNIT), ([refused, None], REFUSED), ([ONE, (1, 2, 3), refused], (InvalidLayout, "variables")),
                ([ONE, (THREE, 2, 3), refused], BLOCKS), ([ONE, TWO, (THREE, (), 3)], (InvalidLayout, "rows")), ([ONE, refused], REFUSED), (ONE, (InvalidLayout, "variables")),
                ([ONE, []], UNIT), ([[ONE]], UNIT),
            ]:
                self.assertEqual(raised(function, units), told)


class Facts(unittest.TestCase):

    def test_examples(self):
        self.assertEqual([elements_across(ONE, "e", 3, TWO, "c"), storage([ONE, TWO]), unlike([ONE, TWO])], [[("y", 0, 0)], [("c", 13)], ("c", 0, 1)])
        self.assertEqual(refusal((ONE[0], ONE[1], ((("e", (2,)), ("a", (1,))),))), ("ahead", "c", "e"))

    def test_defined_where_the_interface_lists_them(self):
        for name in "refusal layout across elements_across lengths storage unlike".split():
            self.assertEqual(getattr(commons, name).__module__, "sectionwise.commons")


if __name__ == "__main__":
    unittest.main()
