"""Promises 58 to 62: storage, what is defined in it, and programs with choices."""

import unittest

import cells
import chosen
from sectionwise import storage
from sectionwise.errors import InvalidArgument, InvalidLayout, InvalidProgram, LimitExceeded
from sectionwise.storage import Store, perhaps, run, surely, wrong_reads
from wrong import Own, raised, values

FAR = 10 ** 30
UNITS = (InvalidLayout, "units")
VARIABLES = (InvalidLayout, "variables")
THREE = [("a", "integer", 0, 3), ("d", "double", 1, 1), ("b", "integer", 1, 2)]
WRITE, COPY = ("write", "a", 1, 7), ("copy", "a", 2, "b", 1)
RIGHT = [WRITE, COPY, ("either", [WRITE], (COPY,)), ("either", (), [])]


def error(at, part):
    return (InvalidProgram, at, part)


def called(function, *given, **named):
    return raised(lambda: function(*given, **named))


def nested(many, inner):
    """A program of so many eithers in one another, with a program within."""
    for _ in range(many):
        inner = [("either", inner, [])]
    return inner


class Layouts(unittest.TestCase):

    def all_of(self, units, variables):
        return {raised(Store, units, variables), called(run, units, variables, []), raised(surely, units, variables, []), raised(perhaps, units, variables, []),
                raised(wrong_reads, units, variables, [])}

    def test_units_go_just_so_far(self):
        for units in [1, 2, 1999, 2000]:
            self.assertEqual(self.all_of(units, []), {None})
        for units in values() + [0, -1, 2001, FAR]:
            if type(units) is not int or not 1 <= units <= 2000:
                self.assertEqual(self.all_of(units, None), {UNITS}, units)

    def test_variables(self):
        for variable in [
            ("a", "integer", 0, 10), ("a", "real", 9, 1), ("a", "double", 0, 5), ("a", "long", 8, 1), ("abcdefghij", "long", 1, 4), ("z", "integer", 0, 1),
        ]:
            self.assertEqual(self.all_of(10, [variable]), {None})
            self.assertEqual(self.all_of(10, (variable,)), {None})
        for variable in [
            ("a", "integer", 0, 11), ("a", "real", 10, 1), ("a", "double", 0, 6), ("a", "long", 9, 1), ("a", "double", 1, 5), ("a", "integer", -1, 2), ("a", "integer", 0, 0), ("a", "integer", 0, -1),
            ("a", "Integer", 0, 1), ("a", "", 0, 1), ("a", "int", 0, 1), ("a", None, 0, 1), ("a", ["integer"], 0, 1), ("a", b"real", 0, 1), ("", "integer", 0, 1), ("abcdefghijk", "integer", 0, 1),
            ("A", "integer", 0, 1), ("a1", "integer", 0, 1), (b"a", "integer", 0, 1), (None, "integer", 0, 1), (["a"], "integer", 0, 1), ("a", "integer", False, 1), ("a", "integer", 0, True),
            ("a", "integer", 0.0, 1), ("a", "integer", 0, 1.0), ("a", "integer", None, 1), ("a", "integer", 0, None), ["a", "integer", 0, 1], ("a", "integer", 0), ("a", "integer", 0, 1, 1), ("a", "integer", FAR, 1),
            ("a", "integer", 0, FAR), "abcd", None, 5,
        ]:
            self.assertEqual(self.all_of(10, [variable]), {VARIABLES}, variable)
            self.assertEqual(self.all_of(10, [("b", "real", 0, 1), variable]), {VARIABLES}, variable)

    def test_of_any_object(self):
        for value in values():
            if type(value) in (list, tuple) and not value:
                continue
            self.assertEqual(self.all_of(3, value), {VARIABLES}, value)
            self.assertEqual(self.all_of(3, [value]), {VARIABLES})
            self.assertEqual(raised(Store, value, value), UNITS if type(value) is not int or not 1 <= value <= 2000 else VARIABLES)

    def test_how_many_and_unlike_names(self):
        some = [(first + second, "real", 0, 1) for first in "abcdefghij" for second in "abcdefghijk"]
        self.assertEqual(self.all_of(1, some[:100]), {None})
        self.assertEqual(self.all_of(1, some[:101]), {VARIABLES})
        self.assertEqual(self.all_of(2, [("a", "real", 0, 1), ("a", "real", 1, 1)]), {VARIABLES})
        self.assertEqual(self.all_of(2, THREE[:1] * 2), {VARIABLES})


class Stores(unittest.TestCase):

    def test_by_words(self):
        store = Store(3, THREE)
        self.assertEqual([store.defined(name) for name in "adb"], [[False] * 3, [False], [False] * 2])
        self.assertIsNone(store.write("a", 1, 7))
        store.write("b", 1, 8)
        store.write("a", 3, 9)
        self.assertEqual([store.read("a", 2), store.read("b", 2), store.defined("a"), store.defined("d")], [8, 9, [True] * 3, [False]])
        store.write("d", 1, 5)
        self.assertEqual([store.defined("a"), store.defined("b"), store.read("d", 1), store.read("a", 2)], [[True, False, False], [False] * 2, 5, None])
        store.write("b", 2, -FAR ** 9)
        self.assertEqual([store.read("d", 1), store.read("a", 2), store.read("a", 3)], [None, None, -FAR ** 9])

    def test_kinds_of_one_width(self):
        store = Store(4, [("i", "integer", 0, 4), ("r", "real", 0, 4), ("d", "double", 0, 2), ("l", "long", 0, 2), ("m", "long", 1, 1)])
        store.write("i", 1, 5)
        store.write("r", 2, 6)
        self.assertEqual([store.read("i", 1), store.read("r", 1), store.read("i", 2), store.read("r", 2)], [5, None, None, 6])
        store.write("l", 1, 7)
        self.assertEqual([store.defined(name) for name in "irdlm"], [[False] * 4, [False] * 4, [False] * 2, [True, False], [False]])
        store.write("m", 1, 8)
        self.assertEqual([store.read("l", 1), store.read("m", 1)], [None, 8])
        store.write("l", 2, 0)
        self.assertEqual([store.read("m", 1), store.read("l", 2), store.defined("l")], [None, 0, [False, True]])

    def test_against_a_log_of_all_writes(self):
        rng = chosen.generator(591)
        for _ in range(250):
            units, variables = cells.variables(rng)
            store, log = Store(units, variables), cells.Log(variables)
            for _ in range(rng.randint(0, 25) if variables else 0):
                name, k = cells.element(rng, variables)
                value = rng.randint(-5, 5)
                store.write(name, k, value)
                log.write(name, k, value)
                self.assertEqual({variable[0]: store.defined(variable[0]) for variable in variables}, log.defined())
                for other, _, _, many in variables:
                    self.assertEqual([store.read(other, at) for at in range(1, many + 1)], [log.read(other, at) for at in range(1, many + 1)])

    def test_copies_go_their_own_ways(self):
        store = Store(3, THREE)
        store.write("a", 1, 7)
        other = store.copy()
        self.assertIs(type(other), Store)
        self.assertTrue(store == other)
        other.write("a", 2, 8)
        self.assertEqual([store.read("a", 2), other.read("a", 2), other.read("a", 1), store == other], [None, 8, 7, False])
        store.write("a", 1, 9)
        third = store.copy()
        self.assertEqual([other.read("a", 1), third.read("a", 1)], [7, 9])

    def test_equality(self):
        one, other = Store(3, THREE), Store(3, tuple(reversed(THREE)))
        self.assertTrue(one == other)
        self.assertFalse(one != other)
        one.write("a", 2, 5)
        self.assertFalse(one == other)
        other.write("b", 1, 5)
        self.assertTrue(one == other)
        other.write("b", 1, 6)
        self.assertFalse(one == other)
        # What was undefined on the way does not count.
        for store in (one, other):
            store.write("a", 2, 1)
            store.write("a", 1, 4)
        other.write("d", 1, 3)
        self.assertFalse(one == other)
        one.write("a", 3, 0)
        one.write("d", 1, 3)
        self.assertTrue(one == other)
        for store in [Store(4, THREE), Store(3, THREE[:2]), Store(3, [("a", "real", 0, 3)] + THREE[1:]), Store(3, [("x", "integer", 0, 3)] + THREE[1:])]:
            self.assertFalse(Store(3, THREE) == store)
            self.assertTrue(Store(3, THREE) != store)
        for value in values() + [Own(), (3, THREE), 3, THREE]:
            if type(value) is not Store:
                self.assertIs(one == value, False)
                self.assertIs(value == one, False)
                self.assertIs(one != value, True)

    def test_what_was_handed_in_and_is_changed_changes_nothing(self):
        variables = list(THREE)
        store = Store(3, variables)
        variables.append(("e", "integer", 0, 1))
        variables.pop(0)
        self.assertTrue(store == Store(3, THREE))
        store.write("a", 1, 7)
        told = store.defined("a")
        told[0] = None
        told.append(1)
        self.assertEqual(store.defined("a"), [True, False, False])

    def test_wrong_ones_in_their_order(self):
        store = Store(3, THREE)
        store.write("a", 1, 7)
        for name in values() + ["c", "aa", ""]:
            if type(name) is not str or name not in "adb" or not name:
                for told in [raised(store.write, name, 9, None), raised(store.read, name, 9), raised(store.defined, name)]:
                    self.assertEqual(told, (InvalidArgument, "name"))
        for k in values() + [0, 4, -1]:
            if type(k) is not int or not 1 <= k <= 3:
                self.assertEqual(raised(store.write, "a", k, None), (InvalidArgument, "k"))
                self.assertEqual(raised(store.read, "a", k), (InvalidArgument, "k"))
        for value in values():
            if type(value) is not int:
                self.assertEqual(raised(store.write, "a", 1, value), (InvalidArgument, "value"))
            else:
                self.assertIsNone(raised(store.copy().write, "a", 2, value))
        self.assertEqual(raised(store.read, "d", 2), (InvalidArgument, "k"))
        self.assertEqual([store.read("a", 1), store.defined("a")], [7, [True, False, False]])

    def test_storage_of_2000(self):
        store = Store(2000, [("i", "integer", 0, 2000), ("d", "double", 0, 1000), ("e", "double", 1, 999)])
        for k in range(1, 2001):
            store.write("i", k, k)
        store.write("d", 1000, 5)
        store.write("e", 1, 6)
        self.assertEqual(store.defined("i"), [True] + [False] * 2 + [True] * 1995 + [False] * 2)
        self.assertEqual(store.defined("d"), [False] * 999 + [True])

    def test_defined_where_the_interface_lists_them(self):
        for name in "Store run surely perhaps wrong_reads".split():
            self.assertEqual(getattr(storage, name).__module__, "sectionwise.storage")
        for name in "__init__ __eq__ write read defined copy".split():
            self.assertIn(name, vars(Store))


class Programs(unittest.TestCase):

    def check(self, rows, told):
        for function in (run, surely, perhaps, wrong_reads):
            self.assertEqual(raised(function, 3, THREE, rows), told, (function, rows))
        self.assertEqual(called(run, 3, THREE, rows, choices=5), told or (InvalidArgument, "choices"))

    def test_right_rows(self):
        self.check(RIGHT, None)
        self.check(tuple(RIGHT), None)
        self.check([WRITE] * 200, None)
        self.check([("write", "d", 1, -FAR ** 5), ("copy", "d", 1, "d", 1), ("copy", "b", 2, "a", 3)], None)

    def test_lists_of_rows(self):
        self.check([WRITE] * 201, error((), "rows"))
        self.check([None] * 201, error((), "rows"))
        for value in values() + [{WRITE}, {WRITE: 1}, iter([WRITE]), "write"]:
            if type(value) not in (list, tuple):
                self.check(value, error((), "rows"))
                self.check([WRITE, ("either", value, None)], error((1, 1), "rows"))
                self.check([WRITE, ("either", [None], value)], error((1, 1, 0), "row"))
                self.check([WRITE, ("either", RIGHT, value)], error((1, 2), "rows"))
                self.check([("either", [], [WRITE, ("either", value, [])])], error((0, 2, 1, 1), "rows"))
        self.check([("either", [WRITE] * 201, None)], error((0, 1), "rows"))
        self.check([("either", [], [None] * 201)], error((0, 2), "rows"))

    def test_wrong_rows(self):
        for row in values() + [
            list(WRITE), WRITE[:3], WRITE + (1,), ("Write",) + WRITE[1:], (b"write",) + WRITE[1:], ("write", "c", 1, 7), ("write", "a", 0, 7), ("write", "a", 4, 7), ("write", "a", True, 7),
            ("write", "a", 1, True), ("write", "a", 1, 1.0), ("write", "a", 1, None), ("write", ["a"], 1, 7), ("write", None, 1, 7), ("write", "a", [1], 7), COPY[:4], COPY + (1,), list(COPY),
            ("copy", "c", 1, "a", 1), ("copy", "a", 1, "c", 1), ("copy", "a", 4, "a", 1), ("copy", "a", 1, "a", 4), ("copy", "a", 1, "d", 1), ("copy", "d", 1, "a", 1), ("copy", "a", True, "a", 1),
            ("copy", "a", 1, "a", True), ("copy", "a", 1, ["a"], 1), ("either",), ("either", []), ("either", [], [], []), ["either", [], []], (["either"], [], []), ("write", {}, {}, {}),
        ]:
            self.check([row], error((0,), "row"))
            self.check(RIGHT + [row, None], error((4,), "row"))
            self.check([WRITE, ("either", [COPY, row], 5)], error((1, 1, 1), "row"))
            self.check([("either", RIGHT, [("either", [], [row])])], error((0, 2, 0, 2, 0), "row"))
        for at in range(4):
            for value in values():
                row = WRITE[:at] + (value,) + WRITE[at + 1:]
                if at < 3 or type(value) is not int:
                    is_right = (at == 1 and type(value) is str and value == "a") or (at == 2 and type(value) is int and value in (1, 2))
                    self.check([row], None if is_right else error((0,), "row"))

    def test_part_by_part_in_order(self):
        self.check([("either", [None], None), None], error((0, 1, 0), "row"))
        self.check([("either", [], None), None], error((0, 2), "rows"))
        self.check([("either", [], []), None, ("either", None, None)], error((1,), "row"))
        self.check([("either", [("either", [], [5])], [6])], error((0, 1, 0, 2, 0), "row"))

    def test_how_deep(self):
        self.check(nested(8, [WRITE]), None)
        self.check(nested(8, []), None)
        self.check(nested(9, [WRITE]), error((0, 1) * 8 + (0,), "row"))
        self.check(nested(9, None), error((0, 1) * 8 + (0,), "row"))
        self.check(nested(8, None), error((0, 1) * 8, "rows"))
        self.check(nested(8, [WRITE, None]), error((0, 1) * 8 + (1,), "row"))
        self.check([WRITE] + nested(7, [WRITE, ("either", [], nested(1, []))]), error((1, 1) + (0, 1) * 6 + (1, 2, 0), "row"))
        # A program that stands in itself has rows of any depth.
        rows = [WRITE]
        rows.append(("either", [], rows))
        self.check(rows, error((1, 2) * 8 + (1,), "row"))

    def test_errors_in_their_order(self):
        for function in (run, surely, perhaps, wrong_reads):
            self.assertEqual(raised(function, 0, None, None), UNITS)
            self.assertEqual(raised(function, 3, None, None), VARIABLES)
            self.assertEqual(raised(function, 3, THREE, None), error((), "rows"))
        for value in values() + [[True] * 201, (False,) * 201, [0], [1], [None], (True, 1), {True}, "", {True: True}]:
            if type(value) not in (list, tuple) or any(type(one) is not bool for one in value) or len(value) > 200:
                self.assertEqual(called(run, 3, THREE, RIGHT, choices=value), (InvalidArgument, "choices"))
                self.assertEqual(called(run, 3, THREE, [None], choices=value), error((0,), "row"))
        for value in [[], (), [True] * 200, (False,) * 200]:
            self.assertIsNone(called(run, 3, THREE, RIGHT, choices=value))
        with self.assertRaises(TypeError):
            run(3, THREE, [], [])


class Runs(unittest.TestCase):

    def test_by_words(self):
        rows = [("write", "a", 2, 4), ("either", [("write", "d", 1, 6)], []), ("copy", "a", 1, "a", 2)]
        variables = [("a", "integer", 0, 2), ("d", "double", 1, 1)]
        path, store = run(3, variables, rows)
        self.assertEqual((path, store.read("d", 1), store.read("a", 2)), ((2,), 6, None))
        path, store = run(3, variables, rows, choices=[True])
        self.assertEqual((path, store.read("a", 1), store.read("a", 2)), (None, 4, 4))
        self.assertIs(type(store), Store)
        self.assertEqual(wrong_reads(3, variables, rows), [(2,)])
        self.assertEqual(surely(3, variables, rows), {"a": [True, True], "d": [False]})
        self.assertEqual(perhaps(3, variables, rows), {"a": [True, True], "d": [False]})
        self.assertEqual(run(3, variables, [])[1], Store(3, variables))

    def test_against_all_ways(self):
        rng = chosen.generator(611)
        stops = 0
        for _ in range(400):
            units, variables = cells.variables(rng)
            rows = cells.program(rng, variables)
            ways = cells.all_ways(variables, rows)
            ends = [log.defined() for path, log in ways if path is None]
            found = {path for path, _ in ways if path is not None}
            stops += len(found)
            with self.subTest(variables=variables, rows=rows):
                self.assertEqual(wrong_reads(units, variables, rows), sorted(found))
                for function, way in ((surely, all), (perhaps, any)):
                    told = function(units, variables, rows)
                    self.assertEqual(told, {name: [way(end[name][k] for end in ends) for k in range(many)] for name, _, _, many in variables})
                for _ in range(4):
                    choices = [rng.random() < 0.5 for _ in range(rng.randint(0, 6))]
                    log = cells.Log(variables)
                    stop = cells.run(log, rows, list(choices))
                    path, store = run(units, variables, rows, choices=rng.choice([choices, tuple(choices)]))
                    self.assertEqual(path, stop)
                    for name, _, _, many in variables:
                        self.assertEqual([store.read(name, k) for k in range(1, many + 1)], [log.read(name, k) for k in range(1, many + 1)])
                self.assertEqual(run(units, variables, rows)[0], cells.run(cells.Log(variables), rows, []))
        self.assertGreater(stops, 150)

    def test_choices_are_taken_as_eithers_come(self):
        variables = [("a", "integer", 0, 4)]
        inner = ("either", [("write", "a", 2, 1)], [("write", "a", 2, 2)])
        rows = [("either", [inner], []), ("either", [("write", "a", 3, 1)], [("write", "a", 3, 2)]), ("copy", "a", 1, "a", 3)]
        for choices, told in [
            ((), [1, 1, 1, None]), ([False, True], [1, 2, 1, None]), ([False, True, True], [2, 2, 2, None]), ([True, True], [2, None, 2, None]), ([True, False, True], [1, None, 1, None]),
        ]:
            path, store = run(4, variables, rows, choices=choices)
            self.assertIsNone(path)
            self.assertEqual([store.read("a", k) for k in range(1, 5)], told)

    def test_paths_in_eithers(self):
        variables = [("a", "integer", 0, 2)]
        bad = ("copy", "a", 1, "a", 2)
        rows = [("either", [("either", [bad], [bad, bad])], [bad]), bad]
        for choices, told in [((), (0, 1, 0, 1, 0)), ([False, True], (0, 1, 0, 2, 0)), ([True], (0, 2, 0))]:
            self.assertEqual(run(2, variables, rows, choices=choices)[0], told)
        self.assertEqual(wrong_reads(2, variables, rows), [(0, 1, 0, 1, 0), (0, 1, 0, 2, 0), (0, 2, 0)])
        # No run comes to the end: all are surely defined, none perhaps.
        self.assertEqual([surely(2, variables, rows), perhaps(2, variables, rows)], [{"a": [True, True]}, {"a": [False, False]}])

    def test_without_either_surely_is_perhaps(self):
        rng = chosen.generator(621)
        for _ in range(200):
            units, variables = cells.variables(rng)
            rows = [row for row in cells.program(rng, variables, 12) if row[0] != "either"]
            path, store = run(units, variables, rows)
            if path is None:
                told = {name: store.defined(name) for name, _, _, _ in variables}
                self.assertEqual([surely(units, variables, rows), perhaps(units, variables, rows)], [told, told])
            else:
                self.assertEqual(wrong_reads(units, variables, rows), [path])
            left = [row for row in rows if row[0] == "write"]
            self.assertIsNone(run(units, variables, left)[0])
            self.assertEqual(wrong_reads(units, variables, left), [])

    def choices_of_cells(self, many, more=0):
        """Variables and a program with two sets of defined cells for each of many choices, and some more sets."""
        variables = [("a", "integer", 0, 40), ("d", "double", 0, 20), ("same", "integer", 0, 40)]
        rows = [("either", [("write", "a", k, 1)], []) for k in range(1, many + 1)]
        return variables, rows + [("either", [("write", "a", k, 1)], [("write", "same", k, 1)]) for k in range(1, more + 1)]

    def test_more_than_1000_sets(self):
        variables, rows = self.choices_of_cells(9)
        for function in (surely, perhaps, wrong_reads):
            self.assertIsNone(raised(function, 40, variables, rows))
            self.assertEqual(raised(function, 40, variables, self.choices_of_cells(10)[1]), (LimitExceeded, 1000))
            # Elements of one kind on the same units are one.
            self.assertIsNone(raised(function, 40, variables, self.choices_of_cells(9, 9)[1]))
            # What is left behind counts, too, if it is told apart at some row.
            both = self.choices_of_cells(10)[1] + [("write", "a", k, 1) for k in range(1, 11)]
            self.assertEqual(raised(function, 40, variables, both), (LimitExceeded, 1000))
            # Sets that are told apart at no row do not count.
            apart = [row for k in range(1, 21) for row in (("either", [("write", "a", k, 1)], []), ("write", "d", (k + 1) // 2, 1))]
            self.assertIsNone(raised(function, 40, variables, apart))
            self.assertEqual(raised(function, 40, variables, [("either", [], both)]), (LimitExceeded, 1000))
        self.assertIsNone(run(40, variables, self.choices_of_cells(10)[1])[0])

    def ways(self, many, begin):
        """A program that defines one of so many elements."""
        rows = [("write", "a", begin, 1)]
        for at in range(1, many):
            rows = [("either", [("write", "a", begin + at, 1)], rows)]
        return rows

    def test_just_1000_sets(self):
        variables = [("a", "integer", 0, 40)]
        # 8 times 5 times 5 times 5 ways.
        rows = self.ways(8, 1) + self.ways(5, 9) + self.ways(5, 14) + self.ways(5, 19)
        for function in (surely, perhaps, wrong_reads):
            self.assertIsNone(raised(function, 40, variables, rows))
            self.assertIsNone(raised(function, 40, variables, [("either", rows, rows)]))
            self.assertEqual(raised(function, 40, variables, [("either", [], rows)]), (LimitExceeded, 1000))
            # Runs that stop at a row do not come behind it.
            stop = [("copy", "a", 30, "a", 31)]
            self.assertIsNone(raised(function, 40, variables, [("either", stop, rows)]))
            self.assertEqual(raised(function, 40, variables, [("either", [], rows)] + stop), (LimitExceeded, 1000))


if __name__ == "__main__":
    unittest.main()
