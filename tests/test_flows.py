"""Promises 33 to 38: programs of assignments, forms, runs, what parts programs, and rings."""

import math
import unittest

import chosen
import machine
import plain
from sectionwise import flows
from sectionwise.errors import InvalidArgument, InvalidProgram
from sectionwise.flows import Flow, after, again, forms, lost, may_change_places, parted, rings, run
from wrong import Own, raised, values

FAR = 10 ** 30
A4 = {"a": ((1, 4),)}
ALL, SOME, OTHER = ((1, 4, 1),), ((1, 3, 1),), ((2, 4, 1),)
EACH = [
    ("copy", "a", SOME, "a", OTHER, None), ("add", "a", SOME, "a", OTHER, 3, (True, False, True)), ("times", "a", ALL, -2, None),
    ("fill", "a", ([2, 4],), 7, (False, True)), ("swap", "a", (1,), "a", (3,), (True,)),
]


def error(at, part):
    return (InvalidProgram, at, part)


def programs(seed, many, most=6):
    rng = chosen.generator(seed)
    for _ in range(many):
        yield (rng,) + machine.program(rng, most)


class Programs(unittest.TestCase):

    def test_what_they_are_made_of(self):
        program = Flow(A4, EACH)
        self.assertEqual((program.arrays(), program.statements()), (A4, EACH))
        self.assertEqual((type(program.arrays()), type(program.statements())), (dict, list))
        program = Flow(statements=tuple(EACH), arrays={"b": ((0, 0), (1, 2)), "a": ((1, 4),)})
        self.assertEqual((program.arrays(), program.statements()), ({"a": ((1, 4),), "b": ((0, 0), (1, 2))}, EACH))
        self.assertEqual(Flow(A4, ()).statements(), [])

    def test_what_was_handed_in_and_is_changed_changes_nothing(self):
        arrays, part, source, statements = dict(A4), [2, 4], [1, 1], []
        statements.append(("copy", "a", (part,), "a", (source,), None))
        program = Flow(arrays, statements)
        told = forms(program)
        part.append(1)
        source[0] = 3
        statements.append(None)
        arrays["b"] = ((1, 2),)
        self.assertEqual(program.statements(), [("copy", "a", ([2, 4],), "a", ([1, 1],), None)])
        self.assertEqual((program.arrays(), forms(program)), (A4, told))

    def test_what_is_told_and_is_changed_changes_nothing(self):
        program = Flow(A4, [("copy", "a", ([2, 4],), "a", ([1, 1],), None)])
        told = program.statements()
        told[0][2][0].append(9)
        told[0][4][0].clear()
        told.append(None)
        program.arrays()["b"] = 1
        self.assertEqual(program.statements(), [("copy", "a", ([2, 4],), "a", ([1, 1],), None)])
        self.assertEqual(program.arrays(), A4)

    def test_equality(self):
        program = Flow(A4, EACH)
        self.assertTrue(program == Flow(dict(A4), tuple(EACH)))
        self.assertFalse(program != Flow(A4, EACH))
        two = {"a": ((1, 4),), "b": ((1, 2),)}
        self.assertTrue(Flow(two, []) == Flow(dict(reversed(list(two.items()))), []))
        for other in [
            Flow(A4, EACH[:4]), Flow(A4, EACH[::-1]), Flow({"a": ((1, 5),)}, EACH), Flow(two, EACH), Flow(A4, []),
            Flow(A4, EACH[:4] + [("swap", "a", (1,), "a", (3,), None)]),
        ]:
            self.assertFalse(program == other)
            self.assertTrue(program != other)
        # The same done otherwise is another program.
        self.assertFalse(Flow(A4, [("fill", "a", ALL, 0, None)]) == Flow(A4, [("times", "a", ALL, 0, None)]))
        self.assertFalse(Flow(A4, [("fill", "a", ([1],), 0, None)]) == Flow(A4, [("fill", "a", ((1, 1, 1),), 0, None)]))
        for other in values() + [Own(), A4, EACH, (A4, EACH)]:
            if type(other) is not Flow:
                self.assertIs(program == other, False)
                self.assertIs(other == program, False)
                self.assertIs(program != other, True)

    def test_arrays(self):
        for arrays in [
            {"a": ((1, 200),)}, {"abcdefgh": ((1, 1),)}, {name: ((1, 25),) for name in "abcdefgh"}, {"a": ((1, 0),)}, {"a": ((1, 0), (-5, 10 ** 29))},
            {"a": ((5 * 10 ** 29, 5 * 10 ** 29),) * 7, "b": ((1, 199),)},
        ]:
            self.assertIsNone(raised(Flow, arrays, []))
        for arrays in [
            {}, {"a": ((1, 201),)}, {"a": ((1, 100),), "b": ((1, 101),)}, {name: ((1, 1),) for name in "abcdefghi"}, {"abcdefghi": ((1, 1),)}, {"": ((1, 1),)},
            {"A": ((1, 1),)}, {"a1": ((1, 1),)}, {"a": ((1, 10 ** 29),)}, {"a": None}, {"a": ()}, {"a": [(1, 2)]}, {"a": ((1, 2),) * 8}, {"a": ((1, True),)},
            {"a": ((1, 5 * 10 ** 29 + 1),)}, {"a": ((1, 1),), "b": None}, {1: ((1, 1),)}, {None: ((1, 1),)}, {("a",): ((1, 1),)}, {b"a": ((1, 1),)}, {"a": ((1,),)},
        ]:
            self.assertEqual(raised(Flow, arrays, None), error(None, "arrays"), arrays)
        for arrays in values():
            self.assertEqual(raised(Flow, arrays, []), error(None, "arrays"), arrays)

    def test_statements(self):
        self.assertIsNone(raised(Flow, A4, EACH * 8))
        self.assertEqual(raised(Flow, A4, EACH * 8 + EACH[:1]), error(None, "statements"))
        self.assertEqual(raised(Flow, A4, [None] * 41), error(None, "statements"))
        self.assertEqual(raised(Flow, A4, [None] * 40), error(0, "statement"))
        for statements in values():
            if type(statements) in (list, tuple):
                self.assertEqual(raised(Flow, A4, statements), error(0, "statement") if statements else None)
            else:
                self.assertEqual(raised(Flow, A4, statements), error(None, "statements"))

    def test_each_form(self):
        for statement in EACH:
            self.assertIsNone(raised(Flow, A4, [statement]))
            for wrong in [statement[:-1], statement + (None,), list(statement), ("Copy",) + statement[1:], (b"copy",) + statement[1:], (None,) + statement[1:], statement[:1], ()]:
                self.assertEqual(raised(Flow, A4, [statement, wrong]), error(1, "statement"), wrong)
            for value in values():
                self.assertEqual(raised(Flow, A4, [statement, statement, value]), error(2, "statement"))
                self.assertEqual(raised(Flow, A4, [statement, (value,) + statement[1:]]), error(1, "statement"))

    def test_whatever_the_parts_but_the_word_are(self):
        for word, many in [("copy", 6), ("add", 7), ("times", 5), ("fill", 5), ("swap", 6)]:
            for length in range(9):
                for value in [None, [], Own(), True]:
                    told = raised(Flow, A4, [(word,) + (value,) * (length - 1)] if length else [()])
                    self.assertEqual(told, error(0, "target" if length == many else "statement"))

    def wrong_names_and_sections(self):
        """Pairs of what may be put for a name and a section, and are none."""
        found = [(value, ALL) for value in values() if value != "a" or type(value) is not str] + [("b", ALL)]
        found += [("a", section) for section in values()]
        found += [("a", section) for section in [((1, 5, 1),), (0,), (5,), ([1, 5],), ((1, 4, 0),), (1, 1), [1], ((1, 4),), (True,), ([True],), ([1] * 65,), ((0, 0, True),)]]
        return [(name, section) for name, section in found if type(name) is not str or name != "a" or not plain.is_section(A4["a"], section)]

    def test_targets(self):
        for statement in EACH:
            for name, section in self.wrong_names_and_sections():
                wrong = statement[:1] + (name, section) + statement[3:]
                self.assertEqual(raised(Flow, A4, EACH + [wrong]), error(5, "target"), wrong)
            wrong = statement[:2] + (([1, 2, 1],),) + statement[3:]
            self.assertEqual(raised(Flow, A4, [wrong]), error(0, "target"))

    def test_sources(self):
        for statement in [EACH[0], EACH[1], EACH[4]]:
            for name, section in self.wrong_names_and_sections():
                wrong = statement[:3] + (name, section) + statement[5:]
                self.assertEqual(raised(Flow, A4, [EACH[0], wrong]), error(1, "source"), wrong)
        twice = (([4, 1, 4],), None)
        self.assertIsNone(raised(Flow, A4, [("copy", "a", SOME, "a") + twice]))
        self.assertIsNone(raised(Flow, A4, [("add", "a", SOME, "a", ([4, 1, 4],), 2, None)]))
        two = {"a": ((1, 4),), "b": ((1, 4),)}
        self.assertEqual(raised(Flow, two, [("swap", "a", SOME, "b") + twice]), error(0, "source"))
        # An element twice is told ahead of another shape.
        self.assertEqual(raised(Flow, two, [("swap", "a", ALL, "b") + twice]), error(0, "source"))

    def test_shapes(self):
        grid = {"a": ((1, 4), (1, 3)), "b": ((1, 4),)}
        for section, other, is_alike in [
            (((1, 4, 1), 1), ((1, 4, 1),), True), (((1, 3, 1), 1), ((1, 4, 1),), False), ((1, (1, 3, 1)), (([4, 3, 2]),), True), ((1, 1), (2,), True),
            (((1, 1, 1), 1), (2,), False), (((1, 1, 1), (1, 3, 1)), ((1, 3, 1),), False), (((1, 0, 1), 9), ([],), True), (([], (1, 3, 1)), ([],), False),
            ((9, []), ((4, 1, 1),), True),
        ]:
            told = None if is_alike else error(0, "shape")
            self.assertEqual(raised(Flow, grid, [("copy", "a", section, "b", other, None)]), told, (section, other))
            self.assertEqual(raised(Flow, grid, [("add", "a", section, "b", other, 1, None)]), told)
            self.assertEqual(raised(Flow, grid, [("swap", "a", section, "b", other, None)]), told)
            self.assertEqual(raised(Flow, grid, [("swap", "b", other, "a", section, None)]), told)

    def test_swaps_with_an_element_in_both(self):
        for section, other, told in [
            (SOME, OTHER, "source"), (ALL, ALL, "source"), (([1, 2],), ((3, 4, 1),), None), ((1,), (1,), "source"), ((1,), (2,), None), (([1, 4],), ((2, 4, 2),), "source"),
            (((1, 3, 2),), ((2, 4, 2),), None), (([],), ((9, 8, 1),), None), ((((5, 4, 1)),), ((5, 4, 1),), None), (([1, 2],), (SOME), "shape"),
        ]:
            self.assertEqual(raised(Flow, A4, [("swap", "a", section, "a", other, None)]), told and error(0, told), (section, other))
            self.assertIsNone(raised(Flow, A4, [("copy", "a", section, "a", section, None)]))
        # It is told also where the mask leaves it out, and ahead of the mask.
        self.assertEqual(raised(Flow, A4, [("swap", "a", (1,), "a", (1,), (False,))]), error(0, "source"))
        self.assertEqual(raised(Flow, A4, [("swap", "a", (1,), "a", (1,), 5)]), error(0, "source"))
        self.assertIsNone(raised(Flow, {"a": ((1, 4),), "b": ((1, 4),)}, [("swap", "a", ALL, "b", ALL, None)]))

    def test_numbers(self):
        for statement, at in [(EACH[1], 5), (EACH[2], 3), (EACH[3], 3)]:
            for number in [0, FAR, -FAR]:
                self.assertIsNone(raised(Flow, A4, [statement[:at] + (number,) + statement[at + 1:]]))
            for number in values() + [FAR + 1, -FAR - 1]:
                if type(number) is not int or abs(number) > FAR:
                    self.assertEqual(raised(Flow, A4, EACH + [statement[:at] + (number, 5)]), error(5, "number"), number)

    def test_masks(self):
        for statement in EACH:
            many = len(plain.elements(statement[2]))
            for mask in [None, (True,) * many, (False,) * many]:
                self.assertIsNone(raised(Flow, A4, [statement[:-1] + (mask,)]))
            for mask in values() + [(True,) * (many + 1), (True,) * (many - 1), [True] * many, (1,) * many, (None,) * many, ((True,),) * many, "a" * many, {}]:
                if mask is not None:
                    self.assertEqual(raised(Flow, A4, [statement, statement[:-1] + (mask,)]), error(1, "mask"), mask)
        self.assertIsNone(raised(Flow, A4, [("fill", "a", ([],), 1, ())]))
        self.assertEqual(raised(Flow, A4, [("fill", "a", ([],), 1, (True,))]), error(0, "mask"))

    def test_several_things_wrong_at_once(self):
        wrong = ("add", "b", ALL, "b", SOME, None, 5)
        for known, part in [(wrong, "target"), (wrong[:1] + ("a",) + wrong[2:], "source"), (("add", "a", ALL, "a", SOME, None, 5), "shape"),
                            (("add", "a", ALL, "a", ALL, None, 5), "number"), (("add", "a", ALL, "a", ALL, 5, 5), "mask")]:
            self.assertEqual(raised(Flow, A4, EACH + [known, None]), error(5, part))
        self.assertEqual(raised(Flow, None, None), error(None, "arrays"))
        self.assertEqual(raised(Flow, A4, {"x": 1}), error(None, "statements"))
        self.assertEqual(raised(Flow, A4, [EACH[0], wrong, ()]), error(1, "target"))


class Runs(unittest.TestCase):

    def test_each_statement(self):
        for statement, told in [
            (("copy", "a", SOME, "a", OTHER, None), [20, 30, 40, 40]), (("copy", "a", OTHER, "a", SOME, None), [10, 10, 20, 30]), (("copy", "a", ALL, "a", ([4, 4, 1, 1],), None), [40, 40, 10, 10]),
            (("copy", "a", OTHER, "a", SOME, (True, False, True)), [10, 10, 30, 30]), (("copy", "a", ((4, 1, -1),), "a", ALL, None), [40, 30, 20, 10]),
            (("add", "a", OTHER, "a", SOME, 2, None), [10, 40, 70, 100]), (("add", "a", ALL, "a", ALL, -1, None), [0, 0, 0, 0]), (("add", "a", SOME, "a", OTHER, 0, None), [10, 20, 30, 40]),
            (("add", "a", OTHER, "a", SOME, 2, (False, True, False)), [10, 20, 70, 40]), (("times", "a", ([4, 2],), 3, None), [10, 60, 30, 120]), (("times", "a", ([4, 2],), 3, (True, False)), [10, 20, 30, 120]),
            (("times", "a", ALL, 0, None), [0, 0, 0, 0]), (("fill", "a", (3,), 7, None), [10, 20, 7, 40]), (("fill", "a", (3,), 7, (False,)), [10, 20, 30, 40]),
            (("swap", "a", ((1, 2, 1),), "a", ((4, 3, -1),), None), [40, 30, 20, 10]), (("swap", "a", ((1, 2, 1),), "a", ((4, 3, -1),), (False, True)), [10, 30, 20, 40]),
            (("swap", "a", ([],), "a", ((4, 1, 1),), None), [10, 20, 30, 40]),
        ]:
            self.assertEqual(run(Flow(A4, [statement]), {"a": [10, 20, 30, 40]}), {"a": told}, statement)

    def test_against_a_plain_machine(self):
        for rng, arrays, statements in programs(351, 400):
            program = Flow(arrays, statements)
            for high in (1, 9, FAR):
                contents = {name: [rng.randint(-high, high) for _ in range(machine.size(arrays[name]))] for name in arrays}
                told = run(program, contents)
                self.assertEqual(told, machine.run(arrays, statements, contents), (arrays, statements))
                self.assertEqual(run(program, {name: tuple(contents[name]) for name in contents}), told)
                self.assertTrue(all(type(row) is list for row in told.values()))

    def test_forms_against_runs(self):
        for _, arrays, statements in programs(352, 300):
            self.assertEqual(forms(Flow(arrays, statements)), machine.forms(arrays, statements), (arrays, statements))

    def test_forms_by_words(self):
        self.assertEqual(forms(Flow(A4, [])), {"a": [(0, (("a", place, 1),)) for place in range(4)]})
        self.assertEqual(forms(Flow(A4, [("fill", "a", (2,), 0, None), ("times", "a", ((3, 4, 1),), 0, None)]))["a"][1:], [(0, ())] * 3)
        two = {"b": ((1, 1),), "a": ((1, 2),)}
        told = forms(Flow(two, [("fill", "a", (1,), -5, None), ("add", "b", (1,), "a", (1,), 2, None), ("add", "b", (1,), "a", (2,), -4, None), ("swap", "b", (1,), "a", (1,), None)]))
        self.assertEqual(told, {"a": [(-10, (("a", 1, -4), ("b", 0, 1))), (0, (("a", 1, 1),))], "b": [(-5, ())]})
        self.assertEqual(forms(Flow({"a": ((1, 0),)}, [("fill", "a", ([],), 1, None)])), {"a": []})

    def test_numbers_grow_beyond_any_bound(self):
        program = Flow(A4, [("times", "a", ALL, -FAR, None)] * 39 + [("fill", "a", (1,), FAR, None)])
        self.assertEqual(forms(program)["a"][:2], [(FAR, ()), (0, (("a", 1, -FAR ** 39),))])
        self.assertEqual(run(program, {"a": [0, FAR, -FAR, 1]}), {"a": [FAR, -FAR ** 40, FAR ** 40, -FAR ** 39]})

    def test_contents(self):
        two = {"a": ((1, 2),), "b": ((1, 1),)}
        program = Flow(two, [])
        for contents in [{"a": [1, 2], "b": [3]}, {"b": (FAR,), "a": (-FAR, FAR)}]:
            self.assertEqual(run(program, contents), {name: list(contents[name]) for name in contents})
        for value in values():
            self.assertEqual(raised(run, program, value), (InvalidArgument, "contents"))
            if type(value) not in (list, tuple) or len(value) != 1 or type(value[0]) is not int:
                self.assertEqual(raised(run, program, {"a": [1, 2], "b": value}), (InvalidArgument, "contents"))
            if type(value) is not int or abs(value) > FAR:
                self.assertEqual(raised(run, program, {"a": [1, value], "b": [3]}), (InvalidArgument, "contents"))
        for contents in [
            {"a": [1, 2]}, {"a": [1, 2], "b": [3], "c": []}, {"a": [1, 2], "c": [3]}, {"a": [1, 2, 3], "b": [3]}, {"a": [1], "b": [3]}, {"a": [1, True], "b": [3]},
            {"a": [1, 2], "b": [FAR + 1]}, {"a": [1, -FAR - 1], "b": [3]}, {"a": {1, 2}, "b": [3]}, {"a": [1, 2], "b": "3"}, {"a": [1, 2], 0: [3]}, {"a": range(2), "b": [3]},
        ]:
            self.assertEqual(raised(run, program, contents), (InvalidArgument, "contents"), contents)
            self.assertEqual(raised(run, None, contents), (InvalidArgument, "program"))


class Parted(unittest.TestCase):

    def check(self, arrays, statements, others):
        told = parted(Flow(arrays, statements), Flow(arrays, others))
        forms_told, forms_other = machine.forms(arrays, statements), machine.forms(arrays, others)
        unlike = [(name, place) for name, place in machine.everything(arrays) if forms_told[name][place] != forms_other[name][place]]
        if not unlike:
            self.assertIsNone(told)
            return False
        name, place, contents = told
        self.assertEqual((name, place), unlike[0])
        (constant, row), (other, its) = forms_told[name][place], forms_other[name][place]
        if constant != other:
            self.assertEqual(contents, machine.zeros(arrays))
        else:
            self.assertEqual(contents, machine.with_one(arrays, *min(set(row) ^ set(its))[:2]))
        one, two = machine.run(arrays, statements, contents), machine.run(arrays, others, contents)
        self.assertNotEqual(one[name][place], two[name][place])
        self.assertTrue(all(type(row) is list for row in contents.values()))
        return True

    def test_against_runs(self):
        found = {True: 0, False: 0}
        for rng, arrays, statements in programs(361, 400):
            others = list(statements)
            kind = rng.random()
            if kind < 0.3:
                others = [machine.statement(rng, arrays) for _ in statements]
            elif kind < 0.6 and others:
                others[rng.randrange(len(others))] = machine.statement(rng, arrays)
            elif kind < 0.9:
                rng.shuffle(others)
            found[self.check(arrays, statements, others)] += 1
        self.assertGreater(min(found.values()), 60)

    def test_alike_by_other_statements(self):
        for one, other in [
            ([("swap", "a", (1,), "a", (2,), None)], [("copy", "a", ((1, 2, 1),), "a", ((2, 1, -1),), None)]), ([("times", "a", ALL, 0, None)], [("fill", "a", ALL, 0, None)]),
            ([("times", "a", (1,), 2, None)], [("add", "a", (1,), "a", (1,), 1, None)]), ([], [("times", "a", ALL, 1, None)]), ([], [("swap", "a", (1,), "a", (2,), (False,))]),
            ([("add", "a", (1,), "a", (2,), 1, None), ("add", "a", (1,), "a", (2,), -1, None)], []), ([("fill", "a", (1,), 5, None)], [("fill", "a", (1,), 2, None), ("fill", "a", (1,), 5, None)]),
        ]:
            self.assertIsNone(parted(Flow(A4, one), Flow(A4, other)))
            self.assertIsNone(parted(Flow(A4, other), Flow(A4, one)))
            self.assertFalse(Flow(A4, one) == Flow(A4, other))

    def test_unlike(self):
        self.assertEqual(parted(Flow(A4, [("fill", "a", (3,), 5, None)]), Flow(A4, [("fill", "a", (3,), 6, None)])), ("a", 2, {"a": [0, 0, 0, 0]}))
        self.assertEqual(parted(Flow(A4, [("times", "a", OTHER, 5, None)]), Flow(A4, [("times", "a", OTHER, 6, None)])), ("a", 1, {"a": [0, 1, 0, 0]}))
        self.assertEqual(parted(Flow(A4, [("fill", "a", (3,), 5, None)]), Flow(A4, [])), ("a", 2, {"a": [0, 0, 0, 0]}))
        self.assertEqual(parted(Flow(A4, [("fill", "a", (3,), 0, None)]), Flow(A4, [])), ("a", 2, {"a": [0, 0, 1, 0]}))
        two = {"b": ((1, 2),), "a": ((1, 2),)}
        told = parted(Flow(two, [("fill", "b", (1,), 5, None), ("copy", "a", (2,), "b", (2,), None)]), Flow(two, []))
        self.assertEqual(told, ("a", 1, {"a": [0, 1], "b": [0, 0]}))
        told = parted(Flow(two, [("add", "b", (1,), "b", (2,), 3, None)]), Flow(two, [("add", "b", (1,), "b", (2,), 4, None)]))
        self.assertEqual(told, ("b", 0, {"a": [0, 0], "b": [0, 1]}))

    def test_of_other_arrays(self):
        program = Flow(A4, [])
        for other in [Flow({"a": ((1, 5),)}, []), Flow({"b": ((1, 4),)}, []), Flow({"a": ((0, 3),)}, []), Flow({"a": ((1, 4),), "b": ((1, 1),)}, []), Flow({"a": ((1, 4), (1, 1))}, [])]:
            self.assertEqual(raised(parted, program, other), (InvalidArgument, "other"))
        for value in values():
            if type(value) is not Flow:
                self.assertEqual(raised(parted, program, value), (InvalidArgument, "other"))
                self.assertEqual(raised(parted, value, value), (InvalidArgument, "program"))
        two = {"a": ((1, 4),), "b": ((1, 2),)}
        self.assertIsNone(parted(Flow(two, []), Flow(dict(reversed(list(two.items()))), [])))


class Hanging(unittest.TestCase):

    def test_lost_against_forms_and_runs(self):
        for _, arrays, statements in programs(371, 250):
            told = lost(Flow(arrays, statements))
            ground = machine.run(arrays, statements, machine.zeros(arrays))
            for name, place in machine.everything(arrays):
                behind = machine.run(arrays, statements, machine.with_one(arrays, name, place))
                self.assertIs((name, place) in told, behind == ground, (arrays, statements))
            self.assertEqual(told, sorted(told))

    def test_lost_by_words(self):
        self.assertEqual(lost(Flow(A4, [])), [])
        self.assertEqual(lost(Flow(A4, [("copy", "a", SOME, "a", OTHER, None)])), [("a", 0)])
        two = {"b": ((1, 2),), "a": ((1, 2),)}
        self.assertEqual(lost(Flow(two, [("fill", "b", ([2],), 1, None), ("times", "a", (1,), 0, None)])), [("a", 0), ("b", 1)])
        self.assertEqual(lost(Flow(two, [("add", "a", (1,), "a", (1,), -1, None)])), [("a", 0)])
        self.assertEqual(lost(Flow(two, [("add", "b", (1,), "a", (1,), 1, None), ("fill", "a", (1,), 0, None)])), [])

    def test_may_change_places_against_runs(self):
        found = {True: 0, False: 0}
        for _, arrays, statements in programs(372, 500, 5):
            program = Flow(arrays, statements)
            for at in range(len(statements) - 1):
                pair = statements[at:at + 2]
                told = machine.forms(arrays, pair) == machine.forms(arrays, pair[::-1])
                self.assertIs(may_change_places(program, at), told, (arrays, pair))
                found[told] += 1
        self.assertGreater(min(found.values()), 50)

    def test_may_change_places_by_words(self):
        for one, other, told in [
            (("fill", "a", (1,), 1, None), ("fill", "a", (2,), 1, None), True), (("fill", "a", (1,), 1, None), ("fill", "a", (1,), 1, None), True),
            (("fill", "a", (1,), 1, None), ("fill", "a", (1,), 2, None), False), (("times", "a", (1,), 3, None), ("times", "a", (1,), 2, None), True),
            (("add", "a", (1,), "a", (2,), 3, None), ("add", "a", (1,), "a", (3,), 2, None), True), (("add", "a", (1,), "a", (2,), 3, None), ("times", "a", (1,), 2, None), False),
            (("fill", "a", (1,), 0, None), ("times", "a", (1,), 2, None), True), (("swap", "a", (1,), "a", (2,), None), ("times", "a", ((1, 2, 1),), 2, None), True),
        ]:
            program = Flow(A4, [("fill", "a", ALL, 0, None), one, other])
            self.assertIs(may_change_places(program, 1), told, (one, other))

    def test_numbers_of_statements(self):
        program = Flow(A4, EACH)
        for at in range(4):
            self.assertIs(type(may_change_places(program, at)), bool)
        for at in values() + [4, 5, -1]:
            if type(at) is not int or not 0 <= at <= 3:
                self.assertEqual(raised(may_change_places, program, at), (InvalidArgument, "at"))
                self.assertEqual(raised(may_change_places, None, at), (InvalidArgument, "program"))
        for statements in ([], EACH[:1]):
            for at in (0, -1, 1):
                self.assertEqual(raised(may_change_places, Flow(A4, statements), at), (InvalidArgument, "at"))


class Moves(unittest.TestCase):

    def sources(self, arrays, statements):
        """For each element the one from which it has its contents, by contents that are all unlike; None if some are lost."""
        contents = {}
        for number, (name, place) in enumerate(machine.everything(arrays)):
            contents.setdefault(name, []).append(number + 1000)
        contents = {name: contents.get(name, []) for name in arrays}
        behind = machine.run(arrays, statements, contents)
        where = {contents[name][place]: (name, place) for name, place in machine.everything(arrays)}
        found = {(name, place): where.get(behind[name][place]) for name, place in machine.everything(arrays)}
        return found if sorted(map(str, found.values())) == sorted(map(str, found)) else None

    def test_rings_again_and_after(self):
        rng = chosen.generator(381)
        lengths = []
        for _ in range(250):
            arrays, statements = machine.moving(rng)
            program = Flow(arrays, statements)
            sources = self.sources(arrays, statements)
            told = rings(program)
            self.assertIsNotNone(sources)
            self.assertEqual(told, sorted(told))
            for ring in told:
                self.assertGreater(len(ring), 1)
                self.assertEqual(ring[0], min(ring))
                for at, element in enumerate(ring):
                    self.assertEqual(sources[element], ring[(at + 1) % len(ring)])
            self.assertEqual(sorted(element for ring in told for element in ring), sorted(element for element in sources if sources[element] != element))
            here, times = {element: element for element in sources}, 0
            while times == 0 or any(element != here[element] for element in here):
                self.assertEqual(after(program, times), {name: [here[(name, place)] for place in range(machine.size(arrays[name]))] for name in arrays})
                here = {element: sources[here[element]] for element in here}
                times += 1
            self.assertEqual(again(program), times)
            lengths.append(times)
            self.assertEqual(after(program, times), after(program, 0))
            self.assertEqual(after(program, FAR), after(program, FAR % times))
            self.assertEqual(after(program, FAR - 1), after(program, (FAR - 1) % times))
        self.assertGreater(len(set(lengths)), 6)

    def test_after_against_runs(self):
        rng = chosen.generator(382)
        for _ in range(100):
            arrays, statements = machine.moving(rng)
            program = Flow(arrays, statements)
            contents = {name: [rng.randint(-99, 99) for _ in range(machine.size(arrays[name]))] for name in arrays}
            behind = contents
            for times in range(8):
                told = after(program, times)
                self.assertEqual({name: [contents[source][place] for source, place in told[name]] for name in told}, behind)
                behind = machine.run(arrays, statements, behind)

    def test_by_words(self):
        two = {"b": ((1, 3),), "a": ((1, 2),)}
        program = Flow(two, [("copy", "b", ((1, 3, 1),), "b", ([3, 1, 2],), None), ("swap", "a", (1,), "a", (2,), None)])
        self.assertEqual(rings(program), [[("a", 0), ("a", 1)], [("b", 0), ("b", 2), ("b", 1)]])
        self.assertEqual(again(program), 6)
        self.assertEqual(after(program, 1), {"a": [("a", 1), ("a", 0)], "b": [("b", 2), ("b", 0), ("b", 1)]})
        self.assertEqual(after(program, 3), {"a": [("a", 1), ("a", 0)], "b": [("b", 0), ("b", 1), ("b", 2)]})
        for statements in [[], [("times", "a", (1,), 1, None)], [("fill", "a", (1,), 5, (False,))]]:
            program = Flow(two, statements)
            self.assertEqual([rings(program), again(program), after(program, FAR)], [[], 1, after(program, 0)])
        empty = Flow({"a": ((1, 0),)}, [])
        self.assertEqual([rings(empty), again(empty), after(empty, FAR)], [[], 1, {"a": []}])

    def test_far_numbers_of_times(self):
        arrays = {"a": ((1, 17),), "b": ((1, 19),), "c": ((1, 23),), "d": ((1, 29),), "e": ((1, 31),), "f": ((1, 37),), "g": ((1, 41),)}
        statements = [("copy", name, ((1, bounds[0][1], 1),), name, (list(range(2, bounds[0][1] + 1)) + [1],), None) for name, bounds in arrays.items()]
        program = Flow(arrays, statements)
        times = math.prod([17, 19, 23, 29, 31, 37, 41])
        self.assertEqual(again(program), times)
        self.assertEqual(after(program, times * (FAR // times)), after(program, 0))
        self.assertEqual(after(program, FAR)["g"], [("g", (place + FAR) % 41) for place in range(41)])

    def test_none_for_what_does_not_move(self):
        for statements in [
            [("copy", "a", (1,), "a", (2,), None)], [("fill", "a", (1,), 0, None)], [("times", "a", (1,), 2, None)], [("times", "a", (1,), -1, None)],
            [("add", "a", (1,), "a", (2,), 1, None)], [("times", "a", (1,), 0, None)], [("fill", "a", (1,), 0, None), ("add", "a", (1,), "a", (2,), 1, None)],
        ]:
            program = Flow(A4, statements)
            self.assertEqual([rings(program), again(program), after(program, 0), after(program, FAR)], [None] * 4)
        # Constants that come to nothing, and what is changed and changed back, move.
        program = Flow(A4, [("times", "a", (1,), -1, None), ("times", "a", (1,), -1, None), ("add", "a", (2,), "a", (1,), 5, None), ("add", "a", (2,), "a", (1,), -5, None)])
        self.assertEqual([rings(program), again(program)], [[], 1])

    def test_times_go_just_so_far(self):
        for program in [Flow(A4, []), Flow(A4, [("fill", "a", ALL, 0, None)])]:
            for times in [0, 1, FAR]:
                self.assertIsNone(raised(after, program, times))
            for times in values() + [-1, FAR + 1]:
                if type(times) is not int or not 0 <= times <= FAR:
                    self.assertEqual(raised(after, program, times), (InvalidArgument, "times"))
                    self.assertEqual(raised(after, None, times), (InvalidArgument, "program"))

    def test_of_what_is_no_program(self):
        for function in (forms, lost, rings, again):
            for value in values() + [A4, EACH, (A4, EACH)]:
                if type(value) is not Flow:
                    self.assertEqual(raised(function, value), (InvalidArgument, "program"))

    def test_defined_where_the_interface_lists_them(self):
        for name in "Flow forms run parted lost may_change_places rings again after".split():
            self.assertEqual(getattr(flows, name).__module__, "sectionwise.flows")
        for name in "__init__ __eq__ arrays statements".split():
            self.assertIn(name, vars(Flow))


if __name__ == "__main__":
    unittest.main()
