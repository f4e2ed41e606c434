"""Promises 63, 64 and 65, and the example and facts of 67."""

import unittest

import chosen
import plain
from sectionwise.arguments import dummy_element, dummy_place, handed, handed_on, seated
from sectionwise.errors import InvalidArgument, InvalidSection
from sectionwise.sections import place_of
from wrong import raised

FAR = 10 ** 30
END = 5 * 10 ** 29
WIDE = FAR + 1


class Example(unittest.TestCase):

    def test_of_promise_67(self):
        bounds, part, dummy = ((1, 3), (1, 4)), ("from", (2, 2)), ((0, 2), (0, None))
        self.assertEqual(handed(bounds, part), (4, 8))
        self.assertEqual(seated(bounds, part, dummy), (4, 8))
        self.assertEqual(dummy_place(bounds, part, dummy, (1, 2)), 11)
        self.assertEqual(raised(dummy_place, bounds, part, dummy, (2, 2)), (InvalidSection, "element"))


class Handed(unittest.TestCase):

    def test_whole(self):
        self.assertEqual(handed(((1, 3), (1, 4)), "whole"), (0, 12))
        self.assertEqual(handed(((1, 3), (4, 1)), "whole"), (0, 0))
        self.assertEqual(handed(((-END, END),) * 7, "whole"), (0, WIDE ** 7))

    def test_sections(self):
        bounds = ((1, 3), (1, 4), (0, 1))
        for section, told in [
            (((1, 3, 1), (1, 4, 1), (0, 1, 1)), (0, 24)), (((1, 3, 1), (2, 3, 1), 1), (15, 6)), ((2, 3, 0), (7, 1)),
            (([2, 3], 4, [1]), (22, 2)), (((3, 3, -1), [1], (1, 1, 7)), (14, 1)), (((1, 3, 1), 4, (0, 0, 1)), (9, 3)),
            (((1, 0, 1), 99, [7, 7]), (0, 0)), ((3, [], 9), (0, 0)), (([2], (2, 2, 1), 1), (16, 1)),
        ]:
            self.assertEqual(handed(bounds, ("section", section)), told, section)

    def test_sections_with_gaps(self):
        bounds = ((1, 3), (1, 4))
        for section in [((1, 3, 2), 1), ((3, 1, -1), 1), (1, (1, 2, 1)), ([1, 1], 1), ((1, 2, 1), (1, 2, 1)), ([2, 1], 4)]:
            self.assertEqual(raised(handed, bounds, ("section", section)), (InvalidSection, "gaps"), section)
            self.assertEqual(raised(seated, bounds, ("section", section), ((1, 1),)), (InvalidSection, "gaps"), section)

    def test_from(self):
        bounds = ((1, 3), (-1, 2))
        for place, element in enumerate(plain.array(bounds)):
            self.assertEqual(handed(bounds, ("from", element)), (place, 12 - place))
        for wrong in [(0, 0), (4, 0), (1, 3), (1, -2), (1,), (1, 0, 0), [1, 0], 1, (True, 0), None]:
            self.assertEqual(raised(handed, bounds, ("from", wrong)), (InvalidSection, "part"), wrong)
        self.assertEqual(raised(handed, ((1, 0),), ("from", (1,))), (InvalidSection, "part"))

    def test_what_is_no_part(self):
        bounds = ((1, 3), (1, 4))
        right = ((1, 3, 1), (1, 4, 1))
        for wrong in [
            ("section", (1, 9)), ("section", (1,)), ("section", ((1, 3, 0), 1)), ("section", [1, 1]), ("section", (True, 1)),
            ("section",), ("section", right, 1), ["section", right], right, ("from",), ("whole",), ("whole", right), "from",
            "Whole", "", b"whole", None, 0, True, ("sections", right), ("part", right), (None, right), (["section"], right),
            ("section", None), ("section", "whole"), ("from", (1, 1), 1), {"section": right}, ["whole"], ("section", ([1] * 65, 1)),
        ]:
            self.assertEqual(raised(handed, bounds, wrong), (InvalidSection, "part"), wrong)

    def test_far_bounds(self):
        bounds = ((-END, END), (-3, 5), (-END, 7), (2, 4), (END, END), (-1, END), (1, 2))
        element = (5, -1, -END + 9, 3, END, 10 ** 20, 2)
        factors = [1, WIDE, 9, END + 8, 3, 1, END + 2]
        place = 0
        made = 1
        for number, (low, _), factor in zip(element, bounds, factors):
            made *= factor
            place += (number - low) * made
        many = made * 2
        self.assertEqual(handed(bounds, ("from", element)), (place, many - place))
        self.assertEqual(handed(bounds, "whole"), (0, many))
        section = ((-END, END, 1), (-3, 5, 1), (-END + 9, 7, 1), 3, (END, END, -4), [10 ** 20], 2)
        first = place - (5 + END) - 2 * WIDE
        self.assertEqual(handed(bounds, ("section", section)), (first, WIDE * 9 * (END - 1)))
        self.assertEqual(seated(bounds, ("section", section), ((-END, END), (1, END - 1))), (first, WIDE * (END - 1)))
        dummy = ((1, 7), (-END, None))
        self.assertEqual(seated(bounds, ("section", section), dummy), (first, WIDE * 9 * (END - 1)))
        self.assertEqual(dummy_place(bounds, ("section", section), dummy, (3, 10 ** 40)), first + 2 + 7 * (10 ** 40 + END))
        self.assertEqual(dummy_element(bounds, ("section", section), dummy, first + 2 + 7 * 10 ** 40), (3, 10 ** 40 - END))


class Seated(unittest.TestCase):

    def test_as_many_as_are_handed_on_and_one_more(self):
        bounds = ((1, 3), (1, 4))
        for part, first, many in [("whole", 0, 12), (("from", (3, 2)), 5, 7), (("section", ((1, 3, 1), 2)), 3, 3)]:
            self.assertEqual(seated(bounds, part, ((5, 4 + many),)), (first, many))
            self.assertEqual(seated(bounds, part, ((5, 3 + many),)), (first, many - 1))
            self.assertEqual(raised(seated, bounds, part, ((5, 5 + many),)), (InvalidSection, "size"))
            self.assertEqual(seated(bounds, part, ((1, 1), (many, 1), (5, 3))), (first, 0))
        self.assertEqual(seated(bounds, "whole", ((1, 2), (1, 1), (1, 3), (1, 1), (0, 1), (1, 1), (7, 7))), (0, 12))
        self.assertEqual(raised(seated, bounds, "whole", ((1, 2), (1, 7))), (InvalidSection, "size"))
        self.assertEqual(raised(seated, bounds, "whole", ((-END, END),) * 7), (InvalidSection, "size"))

    def test_when_none_is_handed_on(self):
        bounds = ((1, 3), (1, 4))
        for its, part in [(bounds, ("section", ([], 9))), (((1, 3), (1, 0)), "whole"), (((1, 0),), ("section", ((5, 4, 1),)))]:
            self.assertEqual(seated(its, part, ((1, 0),)), (0, 0))
            self.assertEqual(seated(its, part, ((1, None),)), (0, 0))
            self.assertEqual(seated(its, part, ((1, 3), (1, None))), (0, 0))
            self.assertEqual(raised(seated, its, part, ((1, 1),)), (InvalidSection, "size"))
            self.assertEqual(raised(dummy_place, its, part, ((1, None),), (1,)), (InvalidSection, "element"))

    def test_open_ones(self):
        bounds, part = ((1, 3), (1, 4)), ("from", (2, 2))
        for dummy in [((0, None),), ((0, 2), (0, None)), ((1, 9), (END, None)), ((1, 0), (1, None)), ((1, 2),) * 6 + ((1, None),)]:
            self.assertEqual(seated(bounds, part, dummy), (4, 8), dummy)

    def test_what_is_no_dummy(self):
        bounds = ((1, 3), (1, 4))
        for wrong in [
            (), ((1, 2),) * 8, ((1, 2),) * 7 + ((1, None),), ((1, None), (1, 2)), ((None, 2),), ((None, None),), ((1, 2, 3),),
            ((1, END + 1),), ((-END - 1, None),), ((True, 2),), ((True, None),), ((1, False),), [(1, 2)], (1, 2), None, 7,
            ((1,),), ((1, 2), [1, None]), ((1, 2), None), (None,), ((1, 0), (1, END + 1)), ((1, None), (1, None)), ((1.0, None),),
            ((END + 1, None),), "whole", ((1, None, None),), {(1, 2): 1}, ((1, 2), (1, "None")),
        ]:
            self.assertEqual(raised(seated, bounds, "whole", wrong), (InvalidSection, "dummy"), wrong)
        self.assertEqual(seated(bounds, "whole", ((END, None),)), (0, 12))
        self.assertEqual(seated(bounds, "whole", ((-END, None),)), (0, 12))
        self.assertEqual(seated(bounds, "whole", ((END, -END), (END, END))), (0, 0))

    def test_order_of_the_errors(self):
        bounds = ((1, 3), (1, 4))
        gaps, wrong = ("section", ((1, 3, 2), 1)), ((1, 99),)
        self.assertEqual(raised(seated, None, None, None), (InvalidSection, "bounds"))
        self.assertEqual(raised(seated, bounds, None, None), (InvalidSection, "part"))
        self.assertEqual(raised(seated, bounds, gaps, None), (InvalidSection, "gaps"))
        self.assertEqual(raised(seated, bounds, gaps, wrong), (InvalidSection, "gaps"))
        self.assertEqual(raised(seated, bounds, "whole", None), (InvalidSection, "dummy"))
        self.assertEqual(raised(dummy_place, bounds, "whole", wrong, None), (InvalidSection, "size"))
        self.assertEqual(raised(dummy_element, bounds, "whole", wrong, None), (InvalidSection, "size"))
        self.assertEqual(raised(dummy_place, bounds, "whole", ((1, 2),), None), (InvalidSection, "element"))
        self.assertEqual(raised(dummy_element, bounds, "whole", ((1, 2),), None), (InvalidArgument, "place"))


class Dummies(unittest.TestCase):

    def test_against_a_plain_count(self):
        rng = chosen.generator(63)
        seen = {"open": 0, "empty row": 0, "cut row": 0, "outside": 0, "seven": 0}
        for _ in range(500):
            bounds = chosen.bounds(rng, size=80, least=rng.choice([0, 1, 1, 1]))
            array = plain.holder(bounds)
            part = chosen.handed_part(rng, array)
            self.assertEqual(handed(bounds, part)[1], len(array.part(part)))
            dummy = chosen.dummy(rng, len(array.part(part)))
            its = array.received(part, dummy)
            self.assertEqual(seated(bounds, part, dummy), (its.begin, len(its.places)), (bounds, part, dummy))
            there = dict(zip(its.places, its.elements))
            for place in array.places:
                element = dummy_element(bounds, part, dummy, place)
                self.assertEqual(element, there.get(place), (bounds, part, dummy, place))
                if element is not None:
                    self.assertEqual(dummy_place(bounds, part, dummy, element), place)
                else:
                    seen["outside"] += 1
            for wrong in [-1, len(array.places), len(array.places) + 5]:
                self.assertEqual(raised(dummy_element, bounds, part, dummy, wrong), (InvalidArgument, "place"))
            self.check_beyond(bounds, part, dummy, its)
            opened = dummy[-1][1] is None
            seen["open"] += opened
            seen["seven"] += len(bounds) == 7
            seen["empty row"] += opened and not plain.array(dummy[:-1]) and len(its.places) > 0
            seen["cut row"] += opened and bool(its.elements) and len(its.places) % len(plain.array(dummy[:-1])) > 0
        self.assertGreater(min(seen.values()), 10, seen)

    def check_beyond(self, bounds, part, dummy, its):
        """Subscripts just beyond those that are there are refused."""
        there = set(its.elements)
        for element in its.elements + [tuple(low for low, _ in dummy)]:
            for at in range(len(dummy)):
                for by in (-1, 1):
                    near = element[:at] + (element[at] + by,) + element[at + 1:]
                    if near not in there:
                        self.assertEqual(raised(dummy_place, bounds, part, dummy, near), (InvalidSection, "element"))

    def test_seven_dimensions(self):
        bounds, dummy = ((1, 128),), ((0, 1),) * 7
        self.assertEqual(seated(bounds, "whole", dummy), (0, 128))
        self.assertEqual(dummy_place(bounds, "whole", dummy, (1, 0, 1, 0, 0, 0, 1)), 69)
        self.assertEqual(dummy_element(bounds, "whole", dummy, 69), (1, 0, 1, 0, 0, 0, 1))
        opened = dummy[:6] + ((5, None),)
        self.assertEqual(dummy_element(bounds, ("from", (2,)), opened, 127), (0, 1, 1, 1, 1, 1, 6))
        self.assertEqual(raised(dummy_place, bounds, ("from", (2,)), opened, (1, 1, 1, 1, 1, 1, 6)), (InvalidSection, "element"))

    def test_an_extent_of_0_ahead_of_the_open_last_one(self):
        bounds, dummy = ((1, 3), (1, 4)), ((1, 2), (3, 2), (1, None))
        self.assertEqual(seated(bounds, ("from", (2, 1)), dummy), (1, 11))
        for place in range(12):
            self.assertIs(dummy_element(bounds, ("from", (2, 1)), dummy, place), None)
        self.assertEqual(raised(dummy_element, bounds, "whole", dummy, 12), (InvalidArgument, "place"))
        self.assertEqual(raised(dummy_place, bounds, "whole", dummy, (1, 3, 1)), (InvalidSection, "element"))
        self.assertEqual(raised(dummy_place, bounds, "whole", dummy, (1, 2, 1)), (InvalidSection, "element"))

    def test_far_open_ones_go_beyond_any_bound(self):
        bounds, dummy = ((-END, END), (-END, END)), ((1, 3), (END, None))
        many = WIDE * WIDE
        last = many - 1
        element = (1 + last % 3, END + last // 3)
        self.assertEqual(dummy_place(bounds, "whole", dummy, element), last)
        self.assertEqual(dummy_element(bounds, "whole", dummy, last), element)
        beyond = (1 + many % 3, END + many // 3)
        self.assertEqual(raised(dummy_place, bounds, "whole", dummy, beyond), (InvalidSection, "element"))


class Chains(unittest.TestCase):

    def test_against_a_plain_count(self):
        rng = chosen.generator(65)
        seen = {"none": 0, "open": 0, "eight": 0, "later": 0}
        for _ in range(700):
            bounds = chosen.bounds(rng, 4, 120, least=rng.choice([0, 1, 1, 1]))
            holder = plain.holder(bounds)
            hands = []
            for _ in range(rng.randint(1, 8)):
                part = chosen.handed_part(rng, holder)
                dummy = chosen.dummy(rng, len(holder.part(part)))
                hands.append((part, dummy))
                holder = holder.received(part, dummy)
            told = handed_on(bounds, rng.choice([list, tuple])(hands))
            self.assertEqual(told, (holder.begin, len(holder.places)), (bounds, hands))
            self.assertEqual(handed_on(bounds, hands[:1]), seated(bounds, *hands[0]))
            self.check_as_one_dimension(bounds, told)
            seen["none"] += not holder.places
            seen["open"] += hands[-1][1][-1][1] is None
            seen["eight"] += len(hands) == 8
            seen["later"] += told[0] > 0
        self.assertGreater(min(seen.values()), 50, seen)

    def check_as_one_dimension(self, bounds, told):
        """Where it has places, it is an array of one dimension from an element on."""
        first, many = told
        if many > 0:
            element = plain.array(bounds)[first]
            self.assertEqual(place_of(bounds, element), first)
            self.assertEqual(seated(bounds, ("from", element), ((1, many),)), told)

    def test_one_to_eight_hands(self):
        bounds = ((1, 100),)
        hand = (("from", (2,)), ((1, None),))
        for many in range(1, 9):
            self.assertEqual(handed_on(bounds, [hand] * many), (many, 100 - many))
            self.assertEqual(handed_on(bounds, (hand,) * many), (many, 100 - many))
        for wrong in [[], (), [hand] * 9, (hand,) * 9, hand, None, {hand: 1}, [list(hand)], [hand, None], [hand + (1,)], [hand[:1]],
                      [()], "whole", iter([hand]), [hand] * 8 + [None]]:
            self.assertEqual(raised(handed_on, bounds, wrong), (InvalidArgument, "hands"), wrong)

    def test_order_of_the_errors(self):
        bounds = ((1, 12),)
        right = ("whole", ((1, 3), (1, 4)))
        gaps, part, dummy, size = (
            (("section", ((1, 3, 2), 1)), None), (None, None), ("whole", None), ("whole", ((1, 13),))
        )
        self.assertEqual(raised(handed_on, None, None), (InvalidSection, "bounds"))
        self.assertEqual(raised(handed_on, bounds, [part, None]), (InvalidArgument, "hands"))
        for wrong, name in [(gaps, "gaps"), (part, "part"), (dummy, "dummy"), (size, "size")]:
            for other in [gaps, part, dummy, size]:
                self.assertEqual(raised(handed_on, bounds, [right, wrong, other]), (InvalidSection, name))
        self.assertEqual(raised(handed_on, bounds, [right, right, ("whole", ((1, 12), (1, 2)))]), (InvalidSection, "size"))

    def test_parts_of_an_open_dummy(self):
        bounds = ((1, 11),)
        opened = ("whole", ((1, 3), (0, None)))
        one = ((1, None),)
        for part, told in [
            ("whole", (0, 11)), (("from", (1, 0)), (0, 11)), (("from", (2, 3)), (10, 1)), (("from", (3, 2)), (8, 3)),
            (("section", ((1, 3, 1), (0, 2, 1))), (0, 9)), (("section", (3, 2)), (8, 1)), (("section", ((1, 3, 1), 1)), (3, 3)),
            (("section", ((1, 3, 1), [])), (0, 0)), (("section", (1, (9, 8, 1))), (0, 0)),
        ]:
            self.assertEqual(handed_on(bounds, [opened, (part, one)]), told, part)
        for part in [("from", (3, 3)), ("from", (1, 4)), ("section", (1, 3)), ("section", ((1, 2, 1), 3)), ("section", (4, 0)),
                     ("section", ((1, 3, 1), (0, 3, 1))), ("from", (1, -1)), ("section", (1, -1))]:
            self.assertEqual(raised(handed_on, bounds, [opened, (part, one)]), (InvalidSection, "part"), part)
        self.assertEqual(raised(handed_on, bounds, [opened, (("section", (1, (0, 1, 1))), one)]), (InvalidSection, "gaps"))

    def test_an_open_dummy_with_no_whole_row(self):
        bounds, opened = ((1, 2),), ("whole", ((1, 3), (1, None)))
        self.assertEqual(handed_on(bounds, [opened, (("from", (2, 1)), ((1, 1),))]), (1, 1))
        self.assertEqual(raised(handed_on, bounds, [opened, (("section", (1, 1)), ((1, 1),))]), (InvalidSection, "part"))
        self.assertEqual(handed_on(bounds, [opened, (("section", (1, [])), ((1, 0),))]), (0, 0))

    def test_sections_without_elements(self):
        bounds = ((1, 20),)
        later = (("from", (6,)), ((1, 5), (1, None)))
        for hands, told in [
            ([later, (("section", ([], 3)), ((1, None),))], (5, 0)),
            ([later, (("section", ([], 3)), ((4, 1),))], (5, 0)),
            ([later, (("from", (3, 2)), ((1, 4),)), (("section", ((3, 2, 1),)), ((1, None),))], (12, 0)),
            ([later, (("section", ([], 3)), ((1, None),)), ("whole", ((1, 3), (1, None)))], (5, 0)),
            ([(("section", ([],)), ((1, 0),)), (("section", ([],)), ((1, None),))], (0, 0)),
            ([later, (("from", (3, 2)), ((1, 0),)), ("whole", ((1, None),))], (12, 0)),
            ([later, (("from", (3, 2)), ((1, 0),)), (("section", ((1, 0, 1),)), ((1, None),))], (12, 0)),
        ]:
            self.assertEqual(handed_on(bounds, hands), told, hands)
        self.assertEqual(raised(handed_on, bounds, [later, (("section", ([], 3)), ((1, 1),))]), (InvalidSection, "size"))

    def test_whole_of_an_open_dummy_with_an_extent_of_0(self):
        bounds = ((1, 20),)
        flat = (("from", (6,)), ((1, 0), (1, None)))
        self.assertEqual(handed_on(bounds, [flat]), (5, 15))
        self.assertEqual(handed_on(bounds, [flat, ("whole", ((1, 3), (1, None)))]), (5, 15))
        self.assertEqual(handed_on(bounds, [flat, ("whole", ((1, 15),)), (("from", (4,)), ((1, 2),))]), (8, 2))
        self.assertEqual(raised(handed_on, bounds, [flat, ("whole", ((1, 16),))]), (InvalidSection, "size"))
        self.assertEqual(handed_on(bounds, [flat, (("section", ([], 7)), ((1, None),))]), (5, 0))
        for wrong in [("from", (1, 1)), ("from", (0, 1)), ("section", (1, 1)), ("section", ((1, 1, 1), 1))]:
            self.assertEqual(raised(handed_on, bounds, [flat, (wrong, ((1, None),))]), (InvalidSection, "part"), wrong)

    def test_far_chains(self):
        bounds = ((-END, END),) * 3
        many = WIDE ** 3
        hands = [
            (("from", (-END + 5, -END, -END)), ((0, 6), (-END, None))),
            (("from", (3, 10 ** 50)), ((1, 10 ** 20), (1, None))),
            ("whole", ((1, 9), (7, None))),
        ]
        first = 5 + 3 + 7 * (10 ** 50 + END)
        self.assertEqual(handed_on(bounds, hands), (first, many - first))
        ending = [(("section", ((1, 9, 1), (8, FAR, 1))), ((0, 8), (1, END), (1, 2)))]
        self.assertEqual(raised(handed_on, bounds, hands + ending), (InvalidSection, "size"))
        ending = [(("section", ((1, 9, 1), (8, FAR, 1))), ((0, 8), (1, END)))]
        self.assertEqual(handed_on(bounds, hands + ending), (first + 9, 9 * END))
        rows = (many - first) // 9
        self.assertEqual(handed_on(bounds, hands + [(("from", (2, 7 + rows - 1)), ((1, 1),))]), (first + 9 * rows - 8, 1))


if __name__ == "__main__":
    unittest.main()
