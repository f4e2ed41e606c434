"""Promise 66, and the fact of 67 on dummies that overlap."""

import unittest

import chosen
import plain
from sectionwise.arguments import call_clash
from sectionwise.errors import InvalidArgument, InvalidSection, LimitExceeded
from wrong import raised

FAR = 10 ** 30
END = 5 * 10 ** 29
LINE = ((1, 10),)
ALL = ((1, 10, 1),)
OPEN = ((1, None),)


def refusal(rows):
    """What a call raises: the error's class and part, or limit."""
    return raised(call_clash, rows)


def row(name="a", bounds=LINE, part="whole", dummy=OPEN, written=None, read=None):
    return (name, bounds, part, dummy, written, read)


class Clashes(unittest.TestCase):

    def test_what_is_reached_through_two_rows(self):
        low, high = ((1, 5, 1),), ((6, 10, 1),)
        for rows, told in [
            ([row(written=low), row(read=high)], None),
            ([row(written=low), row(read=low)], ("a", 0, 0, 1)),
            ([row(read=low), row(written=low)], ("a", 0, 1, 0)),
            ([row(written=low), row(written=low)], ("a", 0, 0, 1)),
            ([row(written=((5, 1, -2),)), row(written=((9, 3, -2),))], ("a", 2, 0, 1)),
            ([row(read=low), row(read=low)], None),
            ([row(written=low), row(written=high)], None),
            ([row(), row(written=ALL)], None),
            ([row(read=(7,)), row(written=([9, 7, 7],))], ("a", 6, 1, 0)),
            ([row(written=([],)), row(written=ALL, read=((1, 0, 1),))], None),
        ]:
            self.assertEqual(call_clash(rows), told, rows)
            self.assertEqual(call_clash(tuple(rows)), told, rows)

    def test_a_row_may_write_and_read_the_same_itself(self):
        self.assertIs(call_clash([row(written=ALL, read=ALL)]), None)
        self.assertIs(call_clash([row(written=([3, 3],), read=(3,)), row(read=(4,))]), None)
        self.assertEqual(call_clash([row(written=(3,), read=(3,)), row(read=(3,))]), ("a", 2, 0, 1))

    def test_arrays_of_several_names(self):
        wide = ((1, 20),)
        self.assertIs(call_clash([row("a", written=ALL), row("b", written=ALL)]), None)
        self.assertIs(call_clash([row("a", written=ALL), row("b", wide, written=ALL), row("A", wide, read=ALL)]), None)
        rows = [row("b", written=(1,)), row("b", read=(1,)), row("a", wide, written=(9,)), row("a", wide, read=(9,))]
        self.assertEqual(call_clash(rows), ("a", 8, 2, 3))
        rows = [row("b", written=ALL), row("a", written=ALL), row("b", written=ALL), row("aa", written=ALL), row("aa", written=ALL)]
        self.assertEqual(call_clash(rows), ("aa", 0, 3, 4))
        rows = [row("a", written=ALL), row("a", read=(2,)), row("Z", written=(8,)), row("Z", read=(8,))]
        self.assertEqual(call_clash(rows), ("Z", 7, 2, 3))

    def test_the_least_by_place_then_at_then_to(self):
        rows = [row(written=(9,)), row(written=([9, 5],)), row(read=([5, 9],)), row(written=(4,)), row(read=(5,))]
        self.assertEqual(call_clash(rows), ("a", 4, 1, 2))
        self.assertEqual(call_clash(rows[2:] + rows[:2]), ("a", 4, 4, 0))
        rows = [row(read=(5,)), row(read=(5,)), row(written=(5,)), row(written=(5,))]
        self.assertEqual(call_clash(rows), ("a", 4, 2, 0))
        self.assertEqual(call_clash(rows[2:] + rows[:2]), ("a", 4, 0, 1))
        self.assertEqual(call_clash([row(read=(5,)), row(written=(5,)), row(read=(5,)), row(written=(5,))]), ("a", 4, 1, 0))

    def test_through_dummies_that_overlap(self):
        rows = [
            row(part=("from", (3,)), dummy=((0, 3),), written=((0, 3, 3),)),
            row(part=("section", ((2, 9, 1),)), dummy=((1, 2), (1, None)), read=((1, 2, 1), [1, 4])),
            row(part="whole", dummy=((1, 5), (1, 2)), written=(5, 1)),
        ]
        self.assertEqual(call_clash(rows), ("a", 2, 0, 1))
        self.assertIs(call_clash([rows[0], rows[2]]), None)
        self.assertIs(call_clash(rows[1:]), None)
        moved = row(part=("from", (4,)), dummy=((0, 3),), written=((0, 3, 3),))
        self.assertIs(call_clash([moved, rows[1]]), None)

    def test_open_dummies_have_their_whole_rows_alone(self):
        three = ((1, 3), (1, None))
        self.assertEqual(call_clash([row(dummy=three, written=(3, 3)), row(read=(9,))]), ("a", 8, 0, 1))
        self.assertEqual(refusal([row(dummy=three, written=(1, 4))]), (InvalidSection, "written"))
        self.assertEqual(refusal([row(dummy=three, read=(1, 4))]), (InvalidSection, "read"))
        self.assertIs(call_clash([row(dummy=((1, 0), (1, None)), written=([], 9), read=((4, 1, 1), 7))]), None)
        self.assertEqual(refusal([row(dummy=((1, 0), (1, None)), written=(1, 1))]), (InvalidSection, "written"))

    def test_against_a_plain_count(self):
        rng = chosen.generator(66)
        seen = {"clash": 0, "none": 0, "eight": 0, "one name": 0}
        for _ in range(600):
            arrays = {name: chosen.bounds(rng, 4, 60, least=rng.choice([0, 1, 1])) for name in ["a", "b", "ab"]}
            names = rng.choice([["a"], ["a"], ["a", "b"], ["b", "a", "ab"]])
            rows = []
            for _ in range(rng.randint(1, 8)):
                name = rng.choice(names)
                array = plain.holder(arrays[name])
                part = chosen.handed_part(rng, array)
                dummy = chosen.dummy(rng, len(array.part(part)))
                its = array.received(part, dummy).whole_rows()
                reached = [rng.choice([None, None, chosen.section(rng, its, 6)]) for _ in range(2)]
                rows.append((name, arrays[name], part, dummy, *reached))
            told = call_clash(rows)
            self.assertEqual(told, plain.call_clash(rows), rows)
            seen["clash"] += told is not None
            seen["none"] += told is None
            seen["eight"] += len(rows) == 8
            seen["one name"] += len(names) == 1 and len(rows) > 1
        self.assertGreater(min(seen.values()), 50, seen)

    def test_far_arrays(self):
        bounds = ((-END, END), (-END, END), (1, 2))
        wide = FAR + 1
        part, dummy = ("from", (0, 0, 1)), ((1, 10 ** 20), (1, None))
        first = END + END * wide
        rows = [
            row("far", bounds, part, dummy, (5, (1, FAR, 10 ** 28)), None),
            row("far", bounds, "whole", ((-END, END), (-END, None)), None, ((0, 40, 1), [3, 0])),
        ]
        self.assertEqual(call_clash(rows), ("far", first + 4, 0, 1))
        rows[1] = row("far", bounds, ("from", (5, 0, 1)), OPEN, None, (1,))
        self.assertIs(call_clash(rows), None)


class Limits(unittest.TestCase):

    def test_as_far_as_5000(self):
        bounds = ((1, 6000),)
        most, more = ((1001, 6000, 1),), ((1000, 6000, 1),)
        self.assertEqual(call_clash([row("a", bounds, written=most, read=most), row("a", bounds, read=most)]), ("a", 1000, 0, 1))
        for wrong in [row("a", bounds, written=more), row("a", bounds, read=more), row("a", bounds, written=(1,), read=more)]:
            self.assertEqual(refusal([wrong]), (LimitExceeded, 5000))
            self.assertEqual(refusal([row("b"), row("a", bounds), wrong]), (LimitExceeded, 5000))
        # Each element counts as often as it comes.
        two = ((1, 2), (1, 3000))
        self.assertIs(call_clash([row("a", bounds, dummy=two, written=([1, 1], (1, 2500, 1)))]), None)
        self.assertEqual(refusal([row("a", bounds, dummy=two, written=([1, 1], (1, 2501, 1)))]), (LimitExceeded, 5000))
        self.assertEqual(refusal([row("a", ((-END, END),), written=((1, END, 1),))]), (LimitExceeded, 5000))
        self.assertIs(call_clash([row("a", bounds, written=([],))]), None)

    def test_eight_rows_of_5000(self):
        bounds = ((1, 90000),)
        rows = [row("a", bounds, ("from", (10000 * k + 1,)), OPEN, ((1, 5000, 1),), ((5001, 10000, 1),)) for k in range(8)]
        self.assertIs(call_clash(rows), None)
        rows[2] = row("a", bounds, ("from", (20000,)), OPEN, ((1, 5000, 1),), ((5001, 10000, 1),))
        self.assertEqual(call_clash(rows), ("a", 19999, 2, 1))


class WrongCalls(unittest.TestCase):

    def test_what_is_no_call(self):
        good = row(written=ALL)
        self.assertIs(call_clash([good]), None)
        self.assertEqual(call_clash([good] * 8), ("a", 0, 0, 1))
        for wrong in [
            [], (), [good] * 9, (good,) * 9, good, None, 7, "whole", {0: good}, {good[0]: 1}, iter([good]), [list(good)], [good[:5]],
            [good + (None,)], [()], [None], [good, None], [good] * 7 + [[]], [("",) + good[1:]], [("a" * 13,) + good[1:]],
            [(b"a",) + good[1:]], [(None,) + good[1:]], [(1,) + good[1:]], [(("a",),) + good[1:]], [(["a"],) + good[1:]],
            [good, (True,) + good[1:]],
        ]:
            self.assertEqual(refusal(wrong), (InvalidArgument, "rows"), wrong)
        self.assertIs(call_clash([("a" * 12,) + good[1:]]), None)
        self.assertIs(call_clash([(" %.\n\u00e9",) + good[1:]]), None)

    def test_rows_of_one_name_have_the_same_bounds(self):
        for other in [((1, 11),), ((0, 9),), ((1, 10), (1, 1))]:
            self.assertEqual(refusal([row(), row("a", other)]), (InvalidArgument, "rows"), other)
            self.assertEqual(refusal([row(), row("b", other), row("b", LINE)]), (InvalidArgument, "rows"), other)
            self.assertEqual(refusal([row(), row("b", other), row("b", other)]), None)
            # It comes ahead of what is wrong within a row.
            self.assertEqual(refusal([row("c", None), row(), row("a", other)]), (InvalidArgument, "rows"))
            self.assertEqual(refusal([row(part=None), row("a", other)]), (InvalidArgument, "rows"))

    def test_bounds_of_all_rows_come_first(self):
        for wrong in [None, (), ((1, END + 1),), [(1, 2)], ((1, None),), ((True, 2),), float("nan"), {}, [[]]]:
            self.assertEqual(refusal([row("a", wrong)]), (InvalidSection, "bounds"), wrong)
            self.assertEqual(refusal([row("a", wrong), row("a", wrong)]), (InvalidSection, "bounds"), wrong)
            self.assertEqual(refusal([row(part=None, dummy=None), row("b", wrong)]), (InvalidSection, "bounds"), wrong)
            self.assertEqual(refusal([row(written=7), row(), row("b", wrong)]), (InvalidSection, "bounds"), wrong)

    def test_row_by_row(self):
        bounds = ((1, 6000),)
        more = ((1, 5001, 1),)
        ladder = [
            (row("z", bounds, None, None, 7, 7), (InvalidSection, "part")),
            (row("z", bounds, ("section", ((1, 3, 2),)), None, 7, 7), (InvalidSection, "gaps")),
            (row("z", bounds, "whole", None, 7, 7), (InvalidSection, "dummy")),
            (row("z", bounds, "whole", ((1, 6001),), 7, 7), (InvalidSection, "size")),
            (row("z", bounds, "whole", OPEN, 7, 7), (InvalidSection, "written")),
            (row("z", bounds, "whole", OPEN, more, 7), (LimitExceeded, 5000)),
            (row("z", bounds, "whole", OPEN, None, 7), (InvalidSection, "read")),
            (row("z", bounds, "whole", OPEN, None, more), (LimitExceeded, 5000)),
        ]
        for first, told in ladder:
            self.assertEqual(refusal([first]), told)
            for second, _ in ladder:
                self.assertEqual(refusal([row(written=ALL), first, second]), told, (first, second))

    def test_what_is_no_section_of_the_dummy(self):
        dummy = ((0, 4), (1, 2))
        for wrong in [(0,), (5, 1), (0, 3), (0, 1, 1), [0, 1], 0, "whole", (True, 1), (0, (1, 2, 0)), ((0, 5, 1), 1), ([0] * 65, 1), ()]:
            self.assertEqual(refusal([row(dummy=dummy, written=wrong)]), (InvalidSection, "written"), wrong)
            self.assertEqual(refusal([row(dummy=dummy, read=wrong)]), (InvalidSection, "read"), wrong)
        self.assertIs(call_clash([row(dummy=dummy, written=((0, 4, 1), (2, 1, -1)), read=([0] * 64, 1))]), None)


if __name__ == "__main__":
    unittest.main()
