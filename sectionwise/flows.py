"""Programs of assignments on arrays, alike or not for all contents, and the rings of those that only move contents."""

from math import lcm

from sectionwise.errors import InvalidArgument
from sectionwise.nsets import is_from_zero
from sectionwise.parts import is_far, is_number
from sectionwise.sections import size_of
from sectionwise.statements import all_elements, carried_out, check_flow, copied_statement


class Flow:
    """A program of statements on arrays, told by their names and bounds."""

    def __init__(self, arrays, statements):
        check_flow(arrays, statements)
        self.bounds_by_name = {name: arrays[name] for name in arrays}
        self.steps = [copied_statement(statement) for statement in statements]

    def arrays(self):
        """The dict of the names of the arrays with their bounds."""
        return {name: self.bounds_by_name[name] for name in self.bounds_by_name}

    def statements(self):
        """The list of the statements."""
        return [copied_statement(statement) for statement in self.steps]

    def __eq__(self, other):
        """Whether the other one is a program of the same statements on the same arrays."""
        return isinstance(other, Flow) and self.bounds_by_name == other.bounds_by_name and self.steps == other.steps


def check_flow_given(program):
    """Refuse what is no program."""
    if not isinstance(program, Flow):
        raise InvalidArgument("program")


def by_name(arrays, told):
    """A dict that has for each name the list of what is told of its elements, by their places."""
    return {name: [told[(name, place)] for place in range(size_of(arrays[name]))] for name in arrays}


def forms_of(program):
    """For each element of a program its form behind it."""
    arrays = program.bounds_by_name
    return forms_behind(arrays, program.steps)


def forms_behind(arrays, steps):
    """For each element of arrays its form behind statements."""
    return carried_out(arrays, steps, {element: (0, {element: 1}) for element in all_elements(arrays)})


def sorted_form(form):
    """A form as it is told: with the tuple of all (name, place, factor) in their order."""
    constant, factors = form
    return constant, tuple(sorted([(name, place, factor) for (name, place), factor in factors.items()]))


def are_numbers(value, many):
    """Whether any value is a list or tuple of so many far numbers."""
    if not isinstance(value, (list, tuple)) or len(value) != many:
        return False
    return all([is_far(number) for number in value])


def are_contents(arrays, value):
    """Whether any value is a dict of the contents of arrays, and of nothing else."""
    if not isinstance(value, dict) or len(value) != len(arrays):
        return False
    return all([name in value and are_numbers(value[name], size_of(arrays[name])) for name in arrays])


def sources_of(program):
    """For each element the one from which it has its contents behind a program, None if the program does not move."""
    told = {}
    for element, (constant, factors) in forms_of(program).items():
        if constant != 0 or list(factors.values()) != [1]:
            return None
        told[element] = list(factors)[0]
    return told if len(set(list(told.values()))) == len(told) else None


def all_rings(sources):
    """The list of all rings, also those of one element, ascending by their first elements."""
    is_told = {}
    told = []
    for first in sorted(sources):
        row = []
        element = first
        while element not in is_told:
            is_told[element] = True
            row.append(element)
            element = sources[element]
        if len(row) > 0:
            told.append(row)
    return told


def forms(program):
    """For each name the list of the forms (constant, rows) of its elements behind a program."""
    check_flow_given(program)
    told = {element: sorted_form(form) for element, form in forms_of(program).items()}
    return by_name(program.bounds_by_name, told)


def run(program, contents):
    """For each name the list of the contents behind a program."""
    check_flow_given(program)
    arrays = program.bounds_by_name
    if not are_contents(arrays, contents):
        raise InvalidArgument("contents")
    ahead = {(name, place): (contents[name][place], {}) for name, place in all_elements(arrays)}
    behind = carried_out(arrays, program.steps, ahead)
    return by_name(arrays, {element: constant for element, (constant, _) in behind.items()})


def contents_for(arrays, form, other):
    """Contents for which two unlike forms come to unlike numbers."""
    told = {element: 0 for element in all_elements(arrays)}
    if form[0] == other[0]:
        unlike = [element for element in told if form[1].get(element, 0) != other[1].get(element, 0)]
        told[unlike[0]] = 1
    return by_name(arrays, told)


def parted(program, other):
    """The least element that two programs leave unlike, and contents for which they do; None if there is none."""
    check_flow_given(program)
    if not isinstance(other, Flow) or other.bounds_by_name != program.bounds_by_name:
        raise InvalidArgument("other")
    arrays = program.bounds_by_name
    told, others = forms_of(program), forms_of(other)
    for name, place in all_elements(arrays):
        form, its = told[(name, place)], others[(name, place)]
        if form != its:
            return name, place, contents_for(arrays, form, its)
    return None


def lost(program):
    """The list of the elements (name, place) whose contents nothing behind a program hangs on."""
    check_flow_given(program)
    kept = {}
    for _, factors in forms_of(program).values():
        for element in factors:
            kept[element] = True
    return [element for element in all_elements(program.bounds_by_name) if element not in kept]


def may_change_places(program, at):
    """Whether the statement at a place and the next one leave the same in either order."""
    check_flow_given(program)
    if not is_number(at) or not 0 <= at < len(program.steps) - 1:
        raise InvalidArgument("at")
    arrays = program.bounds_by_name
    one, other = program.steps[at:at + 2]
    return forms_behind(arrays, [one, other]) == forms_behind(arrays, [other, one])


def rings(program):
    """The list of the rings of two or more elements of a program that moves, None of one that does not."""
    check_flow_given(program)
    sources = sources_of(program)
    if sources is None:
        return None
    return [row for row in all_rings(sources) if len(row) > 1]


def again(program):
    """How many times a program that moves is to be done until all is as it was, None of one that does not move."""
    check_flow_given(program)
    sources = sources_of(program)
    if sources is None:
        return None
    times = 1
    for row in all_rings(sources):
        times = lcm(times, len(row))
    return times


def after(program, times):
    """For each name the list of the elements from which its elements have their contents, a program done so often."""
    check_flow_given(program)
    if not is_from_zero(times):
        raise InvalidArgument("times")
    sources = sources_of(program)
    if sources is None:
        return None
    told = {}
    for row in all_rings(sources):
        for at, element in enumerate(row):
            told[element] = row[(at + times) % len(row)]
    return by_name(program.bounds_by_name, told)
