"""Promises 2 and 3: nothing passed in is changed, what is told is new, and arguments go by place or by name."""

import copy
import inspect
import unittest

from sectionwise import (
    arguments, assigns, clashes, commons, families, flows, functions, nsets, sections, sharing, storage, triplets,
)
from sectionwise.families import Family
from sectionwise.flows import Flow
from sectionwise.nsets import NSet
from sectionwise.storage import Store

BOUNDS = ((1, 3), (0, 3))
SET = NSet([(3, 5, None), (0, 2, 40)])
TWO = {"bounds": BOUNDS, "one": ((2, 3, 1), (0, 2, 2)), "other": ((1, 2, 1), (0, 2, 2))}
ROW = ("a", BOUNDS, ("section", ([1, 2, 3], [0, 1])), ((1, 2), (1, None)), ([1, 2], 1), ([2], [3, 1]))
FAMILY, TURNED = Family((1, 0), (0, 1), 1), Family((0, 1), (1, 0), -1)
FAMILIES = {"one": FAMILY, "other": TURNED}
ALL = NSet([(0, 1, None)])
VARIABLES = [("a", 1, ((1, 10),)), ("d", 2, ((0, 3),)), ("x", 1, ())]
ROWS = [[("a", (4,)), ("d", (1,))], [("x", ()), ("d", ())]]
LAYOUT = {"variables": VARIABLES, "rows": ROWS}
UNIT = (VARIABLES, [("c", ("d", "a"))], [[("x", ()), ("a", (3,))]])
SMALL = ([("m", 3, ((1, 2),)), ("k", 1, ())], [("c", ("m",)), ("", ("k",))], [])
ARRAYS = {"a": ((1, 4),), "b": ((1, 2), (1, 1))}
FLOW = Flow(ARRAYS, [("copy", "a", ([2, 1, 3, 4],), "a", ((1, 4, 1),), None), ("swap", "a", ([4],), "b", ([2], 1), (True,))])
OTHER = Flow(ARRAYS, [("times", "b", ([1, 2], [1]), 3, (True, False))])
ARRAY, MASK = ((2, 3), [1, 2, 3, 4, 5, 6]), ((2, 3), [True, False, False, True, True, False])
STORED = [("a", "integer", 0, 3), ("d", "double", 1, 1)]
STORE = Store(4, STORED)
STORE.write("a", 2, 5)
RUN = {"units": 4, "variables": STORED, "rows": [("either", [("write", "a", 1, 5)], []), ("copy", "a", 2, "a", 1)]}

# Each function with its arguments by the names of the interface, in its order, and what it returns.
CALLS = [
    (sections.extents, {"bounds": BOUNDS}, (3, 4)),
    (sections.element_at, {"bounds": BOUNDS, "place": 4}, (2, 1)),
    (sections.place_of, {"bounds": BOUNDS, "element": (2, 1)}, 4),
    (sections.shape, {"bounds": BOUNDS, "section": ([3, 1, 1], 2)}, (3,)),
    (sections.count, {"bounds": BOUNDS, "section": ([3, 1, 1], [0, 2])}, 6),
    (sections.is_once, {"bounds": BOUNDS, "section": ([3, 1, 1], [0, 2])}, False),
    (sections.element_of, {"bounds": BOUNDS, "section": ([3, 1, 1], [0, 2]), "index": 3}, (3, 2)),
    (sections.listed, {"bounds": BOUNDS, "section": ([3, 1], [0, 2])}, [2, 0, 8, 6]),
    (sections.composed, {"bounds": BOUNDS, "section": ([3, 1], (0, 2, 2)), "inner": ([2, 2], [2])}, ([1, 1], [2])),
    (sections.stretches, {"bounds": BOUNDS, "section": ([2, 3], [1, 0])}, 2),
    (sections.is_contiguous, {"bounds": BOUNDS, "section": ([1, 2, 3], [1, 2])}, True),
    (sections.shared, {"bounds": BOUNDS, "one": ([3, 2, 2], [1]), "other": ([2, 2], (0, 3, 1))}, (1, (2, 1))),
    (sections.includes, {"bounds": BOUNDS, "one": ([3, 2], (1, 2, 1)), "other": ([2, 2], [2])}, True),
    (sections.same_set, {"bounds": BOUNDS, "one": ([3, 2], [1]), "other": ([2, 2, 3], [1])}, True),
    (sections.same_sequence, {"bounds": BOUNDS, "one": ([3, 2, 2], [1]), "other": ([3, 2], [1])}, False),
    (arguments.handed, {"bounds": BOUNDS, "part": ("section", ([2, 3], [1]))}, (4, 2)),
    (arguments.seated, {"bounds": BOUNDS, "part": ("from", (3, 1)), "dummy": ((1, 2), (1, None))}, (5, 7)),
    (arguments.dummy_place,
     {"bounds": BOUNDS, "part": ("section", ([2, 3], [1])), "dummy": ((7, None),), "element": (8,)}, 5),
    (arguments.dummy_element,
     {"bounds": BOUNDS, "part": ("section", ([2, 3], [1])), "dummy": ((7, None),), "place": 5}, (8,)),
    (arguments.handed_on,
     {"bounds": BOUNDS, "hands": [("whole", ((1, 9),)), (("section", ([4, 5],)), ((1, None),))]}, (3, 2)),
    (arguments.call_clash, {"rows": [ROW, ("a", BOUNDS, "whole", ((1, 12),), None, ([2, 1],))]}, ("a", 0, 0, 1)),
    (triplets.triplet_size, {"triplet": (9, 2, -3)}, 3),
    (triplets.triplet_element, {"triplet": (9, 2, -3), "index": 1}, 6),
    (triplets.triplet_index, {"triplet": (9, 2, -3), "number": 3}, 2),
    (triplets.normal, {"triplet": (9, 2, -3)}, (3, 9, 3)),
    (triplets.turned, {"triplet": (2, 9, 3)}, (8, 2, -3)),
    (triplets.is_same_set, {"one": (9, 2, -3), "other": (3, 11, 3)}, True),
    (triplets.is_same_run, {"one": (9, 2, -3), "other": (3, 11, 3)}, False),
    (triplets.met, {"one": (0, 100, 6), "other": (4, 100, 4)}, (12, 96, 12)),
    (triplets.lies_in, {"one": (0, 100, 6), "other": (0, 100, 3)}, True),
    (triplets.less, {"one": (0, 20, 2), "other": (4, 16, 6)}, [(0, 2, 2), (6, 12, 6), (8, 14, 6), (18, 20, 2)]),
    (triplets.apart, {"triplets": [(0, 8, 2), (9, 0, -1)]}, [(0, 8, 2), (1, 7, 2), (9, 9, 1)]),
    (triplets.union_size, {"triplets": [(0, 9, 2), (0, 9, 3)]}, 7),
    (triplets.union_element, {"triplets": [(0, 9, 2), (0, 9, 3)], "index": 4}, 6),
    (triplets.first_gap, {"triplets": [(0, 9, 2), (0, 9, 3)], "low": 2}, 5),
    (NSet, {"rows": [(3, 5, None), (0, 2, 41)]}, SET),
    (SET.has, {"n": 8}, True),
    (SET.least, {"low": 41}, 43),
    (SET.how_many, {"bound": 9}, 6),
    (SET.tail, {}, (41, 5, [3])),
    (nsets.union, {"one": SET, "other": NSet([(0, 1, 3)])}, NSet([(0, 2, 40), (3, 5, None), (1, 1, 1)])),
    (nsets.meet, {"one": SET, "other": NSet([(0, 1, 9)])}, NSet([(0, 2, 9), (3, 1, 3)])),
    (nsets.complement, {"one": NSet([(3, 1, None)])}, NSet([(0, 1, 2)])),
    (assigns.does, {**TWO, "order": ((1, 1), (0, 1))}, False),
    (assigns.clash, {**TWO, "order": ((1, -1), (0, 1))}, ((2, 2), (0, 1), (1, 1))),
    (assigns.signs, TWO, [(-1,), (0,)]),
    (assigns.good_orders, {**TWO, "one": (1, (0, 2, 2)), "other": (1, (1, 3, 2))}, [((0, -1),), ((0, 1),)]),
    (assigns.good_order, {**TWO, "one": ((2, 3, 1), 1), "other": ((1, 2, 1), 1)}, ((0, -1),)),
    (assigns.copy_needed, TWO, False),
    (assigns.done, {"bounds": ((1, 3),), "one": ([3, 1],), "other": ([2, 2],), "contents": [7, 8, 9]}, [8, 8, 8]),
    (assigns.done_by,
     {"bounds": ((1, 3),), "one": ((2, 3, 1),), "other": ((1, 2, 1),), "order": ((0, 1),), "contents": [7, 8, 9]}, [7, 7, 7]),
    (assigns.may_change_places,
     {"bounds": BOUNDS, "first": (([1, 2], [0]), ([3, 3], [1])), "last": ((3, 0), (3, 1))}, True),
    (Family, {"first": (1, 0), "last": (0, 1), "step": 1}, FAMILY),
    (families.triplet_at, {"family": TURNED, "n": 7}, (7, 1, -1)),
    (families.size_at, {"family": TURNED, "n": 7}, 7),
    (families.alike_sizes, FAMILIES, ALL),
    (families.within, {"family": FAMILY, "low": (1, 0), "high": (9, 0)}, NSet([(0, 1, 9)])),
    (families.same_sequence, FAMILIES, NSet([(0, 1, 1)])),
    (families.same_elements, FAMILIES, ALL),
    (clashes.shares, FAMILIES, NSet([(1, 1, None)])),
    (clashes.inside, {"one": FAMILY, "other": Family((2, 0), (0, 2), 1)}, NSet([(0, 1, 0)])),
    (clashes.least_shared, {**FAMILIES, "n": 5}, 1),
    (clashes.clashes, {**FAMILIES, "order": "forward"}, NSet([(2, 1, None)])),
    (clashes.needs_copy, FAMILIES, NSet([(2, 1, None)])),
    (clashes.first_clash, {**FAMILIES, "n": 5, "order": "backward"}, (4, 3, 1)),
    (clashes.may_swap, {"first": ("a", FAMILY, "b", FAMILY), "last": ("c", FAMILY, "a", TURNED)}, NSet([(0, 1, 0)])),
    (sharing.offsets, LAYOUT, [("a", "a", 0), ("d", "a", 1), ("x", "a", 1)]),
    (sharing.idle, {**LAYOUT, "rows": ROWS + [[("a", (2,)), ("x", ())]]}, [2]),
    (sharing.are_bases, {**LAYOUT, "thing": [5, 6, 6]}, True),
    (sharing.ring, {**LAYOUT, "rows": ROWS}, None),
    (sharing.is_ring, {**LAYOUT, "rows": [[("a", (1,)), ("a", (2,))]], "thing": [(0, 1, 0)]}, True),
    (sharing.shared, {**LAYOUT, "one": "a", "other": "d"}, (1, 8)),
    (sharing.touched, {**LAYOUT, "one": "d", "number": 0, "other": "a"}, (1, 2)),
    (sharing.pairs_number, {**LAYOUT, "one": "a", "other": "d"}, 8),
    (sharing.twins_number, {**LAYOUT, "one": "a", "other": "x"}, 1),
    (commons.refusal, {"unit": (VARIABLES, [("c", ("d",)), ("", ("a",))], ROWS)}, ("joined", "c", "")),
    (commons.layout, {"unit": UNIT}, [("c", 18, (("a", 8), ("d", 0), ("x", 10)))]),
    (commons.across, {"one": UNIT, "other": SMALL, "block": "c"}, [("d", "m", 0, 6)]),
    (commons.elements_across, {"one": UNIT, "name": "d", "number": 1, "other": SMALL, "block": "c"}, [("m", 0, 1)]),
    (commons.lengths, {"units": [UNIT, SMALL]}, [("c", (18, 6)), ("", (None, 1))]),
    (commons.unlike, {"units": [UNIT, SMALL]}, ("c", 0, 1)),
    (commons.storage, {"units": [UNIT, SMALL]}, [("", 1), ("c", 18)]),
    (Flow, {"arrays": ARRAYS, "statements": OTHER.statements()}, OTHER),
    (FLOW.arrays, {}, ARRAYS),
    (OTHER.statements, {}, [("times", "b", ([1, 2], [1]), 3, (True, False))]),
    (flows.forms, {"program": OTHER}, {
        "a": [(0, (("a", 0, 1),)), (0, (("a", 1, 1),)), (0, (("a", 2, 1),)), (0, (("a", 3, 1),))], "b": [(0, (("b", 0, 3),)), (0, (("b", 1, 1),))],
    }),
    (flows.run, {"program": FLOW, "contents": {"a": [1, 2, 3, 4], "b": (5, 6)}}, {"a": [2, 1, 3, 6], "b": [5, 4]}),
    (flows.parted, {"program": FLOW, "other": OTHER}, ("a", 0, {"a": [1, 0, 0, 0], "b": [0, 0]})),
    (flows.lost, {"program": Flow(ARRAYS, [("fill", "b", (1, 1), 3, None)])}, [("b", 0)]),
    (flows.may_change_places, {"program": FLOW, "at": 0}, True),
    (flows.rings, {"program": FLOW}, [[("a", 0), ("a", 1)], [("a", 3), ("b", 1)]]),
    (flows.again, {"program": FLOW}, 2),
    (flows.after, {"program": FLOW, "times": 3},
     {"a": [("a", 1), ("a", 0), ("a", 2), ("b", 1)], "b": [("b", 0), ("a", 3)]}),
    (functions.is_array, {"value": ARRAY}, True),
    (functions.is_mask, {"value": ARRAY}, False),
    (functions.element, {"array": ARRAY, "subscripts": [2, 3]}, 6),
    (functions.reshape, {"source": ARRAY, "shape": [7], "pad": ((1,), [9]), "order": [1]}, ((7,), [1, 2, 3, 4, 5, 6, 9])),
    (functions.transpose, {"array": ARRAY}, ((3, 2), [1, 3, 5, 2, 4, 6])),
    (functions.spread, {"source": ((1,), [7]), "dim": 1, "copies": 2}, ((2, 1), [7, 7])),
    (functions.merge, {"one": ARRAY, "other": ((2, 3), [0] * 6), "mask": MASK}, ((2, 3), [1, 0, 0, 4, 5, 0])),
    (functions.pack, {"array": ARRAY, "mask": MASK, "vector": ((4,), [9] * 4)}, ((4,), [1, 4, 5, 9])),
    (functions.unpack, {"vector": ((3,), [7, 8, 9]), "mask": MASK, "field": 0}, ((2, 3), [7, 0, 0, 8, 9, 0])),
    (functions.cshift, {"array": ARRAY, "shift": ((2,), [1, 2]), "dim": 2}, ((2, 3), [3, 6, 5, 2, 1, 4])),
    (functions.eoshift, {"array": ARRAY, "shift": 1, "boundary": ((2,), [8, 9]), "dim": 2}, ((2, 3), [3, 4, 5, 6, 8, 9])),
    (functions.total, {"array": ARRAY, "dim": 1, "mask": MASK}, ((3,), [1, 4, 5])),
    (functions.product, {"array": ARRAY, "dim": None, "mask": MASK}, 20),
    (functions.how_many, {"mask": MASK, "dim": 2}, ((2,), [2, 1])),
    (functions.any_of, {"mask": MASK, "dim": 2}, ((2,), [True, True])),
    (functions.all_of, {"mask": MASK, "dim": None}, False),
    (functions.maxloc, {"array": ARRAY, "dim": None, "mask": MASK, "back": True}, (1, 3)),
    (functions.minloc, {"array": ARRAY, "dim": 2, "mask": MASK, "back": False}, ((2,), [1, 2])),
    (functions.matmul, {"one": ARRAY, "other": ((3,), [1, 0, 2])}, ((2,), [11, 14])),
    (Store, {"units": 4, "variables": STORED}, Store(4, STORED)),
    (STORE.read, {"name": "a", "k": 2}, 5),
    (STORE.write, {"name": "a", "k": 2, "value": 5}, None),
    (STORE.defined, {"name": "a"}, [False, True, False]),
    (STORE.copy, {}, STORE),
    (storage.run, {**RUN, "choices": [True]}, ((1,), Store(4, STORED))),
    (storage.surely, RUN, {"a": [True, True, False], "d": [False]}),
    (storage.perhaps, RUN, {"a": [True, True, False], "d": [False]}),
    (storage.wrong_reads, RUN, [(1,)]),
]

# What of each argument behind a * is taken where it is left out.
LEFT_OUT = {
    "reshape": {"pad": None, "order": None}, "pack": {"vector": None}, "cshift": {"dim": 1}, "eoshift": {"boundary": 0, "dim": 1},
    "total": {"dim": None, "mask": True}, "product": {"dim": None, "mask": True}, "how_many": {"dim": None}, "any_of": {"dim": None},
    "all_of": {"dim": None}, "maxloc": {"dim": None, "mask": True, "back": False}, "minloc": {"dim": None, "mask": True, "back": False},
    "run": {"choices": ()},
}


def shown(given):
    """Arguments as text, objects of the package by what they are made of."""
    return repr({name: told(value) for name, value in given.items()})


def told(value):
    """A value, with objects of the package as what they are made of."""
    if type(value) is tuple:
        return tuple(told(part) for part in value)
    return vars(value) if type(value) in (NSet, Family, Flow, Store) else value


def kinds(thing):
    """The kind of what is told, and of all within it."""
    if type(thing) in (list, tuple):
        return type(thing), [kinds(part) for part in thing]
    if type(thing) is dict:
        return dict, {name: kinds(thing[name]) for name in thing}
    return type(thing)


def split(function, given):
    """Arguments that may be told by place, and those behind a *."""
    named = [name for name, told in inspect.signature(function).parameters.items() if told.kind is told.KEYWORD_ONLY]
    return {name: given[name] for name in given if name not in named}, {name: given[name] for name in given if name in named}


INTERFACE = {
    "triplets": "triplet_size triplet_element triplet_index normal turned is_same_set is_same_run met lies_in less apart "
                "union_size union_element first_gap",
    "sections": "extents element_at place_of shape count is_once element_of listed composed stretches is_contiguous shared "
                "includes same_set same_sequence",
    "nsets": "NSet NSet.has NSet.least NSet.how_many NSet.tail union meet complement",
    "families": "Family triplet_at size_at alike_sizes within same_sequence same_elements",
    "clashes": "shares inside least_shared clashes needs_copy first_clash may_swap",
    "assigns": "does clash signs good_orders good_order copy_needed done done_by may_change_places",
    "flows": "Flow Flow.arrays Flow.statements forms run parted lost may_change_places rings again after",
    "functions": "is_array is_mask element reshape transpose spread merge pack unpack cshift eoshift total product how_many "
                 "any_of all_of maxloc minloc matmul",
    "sharing": "offsets idle are_bases ring is_ring shared touched pairs_number twins_number",
    "commons": "refusal layout across elements_across lengths storage unlike",
    "storage": "Store Store.write Store.read Store.defined Store.copy run surely perhaps wrong_reads",
    "arguments": "handed seated dummy_place dummy_element handed_on call_clash",
}


class Conventions(unittest.TestCase):

    def test_by_place_and_by_name(self):
        for function, given, told in CALLS:
            self.assertEqual(list(inspect.signature(function).parameters), list(given), function)
            placed, named = split(function, given)
            self.assertEqual(function(*placed.values(), **named), told, function)
            self.assertEqual(function(**given), told, function)
            self.assertEqual(function(**dict(reversed(list(given.items())))), told, function)
            if placed:
                first, *others = placed
                self.assertEqual(function(placed[first], **{name: given[name] for name in given if name != first}), told, function)

    def test_by_name_alone(self):
        for function, given, _ in CALLS:
            placed, named = split(function, given)
            is_method = inspect.ismethod(function) or inspect.isclass(function)
            self.assertEqual(list(named), [] if is_method or function is flows.run else list(LEFT_OUT.get(function.__name__, {})), function)
            if named:
                with self.assertRaises(TypeError):
                    function(*given.values())

    def test_of_what_is_left_out(self):
        self.assertEqual(SET.least(), 0)
        self.assertEqual(inspect.signature(NSet.least).parameters["low"].default, 0)
        for module in (functions, storage):
            for name, told in LEFT_OUT.items():
                function = getattr(module, name, None)
                if function is not None and function.__module__ == module.__name__:
                    found = {name: one.default for name, one in inspect.signature(function).parameters.items() if one.kind is one.KEYWORD_ONLY}
                    self.assertEqual(repr(found), repr(told))

    def test_each_function_of_the_interface_is_called(self):
        called = {(function.__module__, function.__qualname__) for function, _, _ in CALLS}
        for module, names in INTERFACE.items():
            for name in names.split():
                self.assertIn((f"sectionwise.{module}", name), called)
        self.assertEqual(len(called), sum(len(names.split()) for names in INTERFACE.values()))

    def test_kinds_of_what_is_told(self):
        for function, given, told in CALLS:
            self.assertEqual(kinds(function(**given)), kinds(told), function)

    def test_nothing_passed_in_is_changed(self):
        for function, given, told in CALLS:
            before = shown(given)
            function(**given)
            self.assertEqual(shown(given), before, function)

    def test_nothing_wrong_passed_in_is_changed(self):
        nested = [[1, [2]], {1: [2]}]
        before = copy.deepcopy(nested)
        for function, given, _ in CALLS:
            for name in given:
                for value in [nested, (nested,), ("section", nested), [("a", nested)], [nested], (nested, nested)]:
                    try:
                        function(**{**given, name: value})
                    except ArithmeticError:
                        pass
                    self.assertEqual(nested, before, (function, name))

    def test_what_is_told_is_new_and_not_kept(self):
        for function, given, told in CALLS:
            first, second = function(**given), function(**given)
            self.spoil(first)
            self.assertEqual(second, told, function)
            self.assertEqual(function(**given), told, function)
            self.assertEqual(copy.deepcopy(given), given)

    def test_contents_are_told_themselves_in_a_new_list(self):
        inner = [1]
        given = [inner, inner, []]
        for told in [
            assigns.done(((1, 3),), ((2, 3, 1),), ((1, 2, 1),), given),
            assigns.done_by(((1, 3),), ((2, 3, 1),), ((1, 2, 1),), ((0, -1),), given),
        ]:
            self.assertIs(told[2], inner)
            told.append(9)
            told[0] = 7
            self.assertEqual(given, [[1], [1], []])

    def spoil(self, thing):
        if type(thing) in (list, tuple):
            for part in thing:
                self.spoil(part)
        if type(thing) is dict:
            for part in thing.values():
                self.spoil(part)
            thing["spoilt"] = True
        if type(thing) is list:
            thing.append("spoilt")

    def test_the_lists_of_a_call_may_change_behind_it(self):
        row = [1, 2]
        told = sections.composed(((1, 3),), ([3, 2, 1],), (row,))
        row.append(3)
        self.assertEqual(told, ([3, 2],))
        empty = []
        told = sections.composed(((1, 3), (1, 3)), ((1, 3, 1), (1, 3, 1)), (empty, row))
        row.append(4)
        empty.append(4)
        self.assertEqual(told, ([], [1, 2, 3]))

    def test_texts_and_lists_may_be_lists_or_tuples_where_said(self):
        hands = [("whole", ((1, 12),)), (("from", (3,)), ((1, None),))]
        self.assertEqual(arguments.handed_on(BOUNDS, hands), arguments.handed_on(BOUNDS, tuple(hands)))
        self.assertEqual(arguments.call_clash([ROW]), arguments.call_clash((ROW,)))


if __name__ == "__main__":
    unittest.main()
