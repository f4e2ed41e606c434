"""What is asked of all functions: wrong inputs of all kinds for each argument, and several at once.

A test case that has this class as a base tells: for each kind of argument what may be put for it, what of that is
right, and what is raised if not; one right value of each kind; and each function with the kinds of its arguments, in
the order of its errors.
"""

import itertools

from wrong import raised


class Asked:

    kinds = {}
    right = {}
    functions = []

    def wrong_ones(self, kind):
        make, is_right, _ = self.kinds[kind]
        return [value for value in make() if not is_right(value)]

    def with_values(self, kinds, changed):
        return [changed.get(at, self.right[kind]) for at, kind in enumerate(kinds)]

    def test_right_ones_are_taken(self):
        for function, kinds in self.functions:
            self.assertIsNone(raised(function, *self.with_values(kinds, {})), function)

    def test_each_argument_alone(self):
        for function, kinds in self.functions:
            for at, kind in enumerate(kinds):
                values = self.wrong_ones(kind)
                self.assertGreater(len(values), 50)
                for value in values:
                    with self.subTest(function=function.__name__, kind=kind, value=value):
                        self.assertEqual(raised(function, *self.with_values(kinds, {at: value})), self.kinds[kind][2])

    def test_right_ones_of_each_argument(self):
        for function, kinds in self.functions:
            for at, kind in enumerate(kinds):
                make, is_right, error = self.kinds[kind]
                for value in make():
                    if is_right(value):
                        with self.subTest(function=function.__name__, kind=kind, value=value):
                            self.assertNotEqual(raised(function, *self.with_values(kinds, {at: value})), error)

    def test_what_is_wrong_first_is_raised(self):
        for function, kinds in self.functions:
            for at, behind in itertools.combinations(range(len(kinds)), 2):
                for value in self.wrong_ones(kinds[at]):
                    for other in [None, [], True, -1]:
                        with self.subTest(function=function.__name__, at=at, value=value, behind=other):
                            told = raised(function, *self.with_values(kinds, {at: value, behind: other}))
                            self.assertEqual(told, self.kinds[kinds[at]][2])

    def test_all_wrong_at_once(self):
        for function, kinds in self.functions:
            error = self.kinds[kinds[0]][2]
            for value in [None, True, {}, set(), 1.5, "x", (None,), object(), [None]]:
                self.assertEqual(raised(function, *[value for _ in kinds]), error, (function, value))
