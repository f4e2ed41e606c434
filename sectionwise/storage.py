"""Storage at work: what is written, what is read, and what is defined behind all runs of a program.

All runs are gone through at once by the sets of defined cells with which they come to a row. Such a set is a number
that has a bit for each cell.
"""

from sectionwise.errors import InvalidArgument, LimitExceeded
from sectionwise.parts import is_number
from sectionwise.paths import check_program
from sectionwise.units import cell_of, cells_of, cells_touched, check_storage, places_by_name

CHOICES = 200
SETS = 1000


class Store:
    """Units of storage with variables, of which at first no element is defined."""

    def __init__(self, units, variables):
        check_storage(units, variables)
        self.units = units
        self.variables = sorted(variables)
        self.places = places_by_name(variables)
        # The values of all cells that are defined; the elements of one cell are always defined together.
        self.contents = {}

    def write(self, name, k, value):
        """Put an integer into an element: all that share a unit with it, but are no such cell, are undefined then."""
        cell = self.cell(name, k)
        if not is_number(value):
            raise InvalidArgument("value")
        for touched in cells_touched(cell):
            if touched in self.contents:
                del self.contents[touched]
        self.contents[cell] = value

    def read(self, name, k):
        """The value of an element, None if it is undefined."""
        return self.contents.get(self.cell(name, k))

    def defined(self, name):
        """The list of bools that tells of each element of a variable whether it is defined."""
        self.check_name(name)
        return [cell in self.contents for cell in cells_of(self.places[name])]

    def copy(self):
        """Another store with the same contents."""
        made = Store(self.units, self.variables)
        made.contents = {cell: self.contents[cell] for cell in self.contents}
        return made

    def check_name(self, name):
        """Refuse what is no name of a variable."""
        if not isinstance(name, str) or name not in self.places:
            raise InvalidArgument("name")

    def cell(self, name, k):
        """The cell of what may be an element."""
        self.check_name(name)
        if not is_number(k) or not 1 <= k <= self.places[name][2]:
            raise InvalidArgument("k")
        return cell_of(self.places[name], k)

    def __eq__(self, other):
        """Whether the other one is a store of the same variables with the same contents."""
        return (
            isinstance(other, Store) and self.units == other.units and self.variables == other.variables
            and self.contents == other.contents
        )


def are_choices(value):
    """Whether any value is a list or tuple of so few bools."""
    if not isinstance(value, (list, tuple)) or len(value) > CHOICES:
        return False
    return all([isinstance(choice, bool) for choice in value])


def done_in(store, rows, path, choices):
    """Do rows in a store, and take each choice that is made from the end of a list; the path where the run stops."""
    for number, row in enumerate(rows):
        stop = done_row(store, row, path + (number,), choices)
        if stop is not None:
            return stop
    return None


def done_row(store, row, path, choices):
    """Do a row in a store; the path where the run stops, None if it goes on."""
    if row[0] == "either":
        chosen = 2 if len(choices) > 0 and choices.pop() else 1
        return done_in(store, row[chosen], path + (chosen,), choices)
    if row[0] == "write":
        store.write(row[1], row[2], row[3])
        return None
    value = store.read(row[3], row[4])
    if value is None:
        return path
    store.write(row[1], row[2], value)
    return None


def run(units, variables, rows, *, choices=()):
    """The tuple (path, store) of the row at which a program stops, None if at none, and the store behind."""
    check_storage(units, variables)
    check_program(places_by_name(variables), rows)
    if not are_choices(choices):
        raise InvalidArgument("choices")
    store = Store(units, variables)
    stop = done_in(store, rows, (), list(choices)[::-1])
    return stop, store


class Runs:
    """All runs of a program of variables: the bits of their cells, and the paths of the rows at which some stop."""

    def __init__(self, places):
        self.places = places
        cells = {cell: True for place in places.values() for cell in cells_of(place)}
        self.bits = {cell: 1 << at for at, cell in enumerate(cells)}
        self.stops = {}

    def bit(self, name, k):
        """The bit of the cell of an element."""
        return self.bits[cell_of(self.places[name], k)]

    def behind_write(self, sets, name, k):
        """The sets of defined cells behind a write to an element."""
        touched = sum([self.bits.get(cell, 0) for cell in cells_touched(cell_of(self.places[name], k))])
        own = self.bit(name, k)
        return {defined - (defined & touched) + own: True for defined in sets}

    def behind_row(self, sets, row, path):
        """The sets of defined cells behind a row; the runs that stop at it do not come there."""
        if row[0] == "write":
            return self.behind_write(sets, row[1], row[2])
        if row[0] == "either":
            one = self.behind(sets, row[1], path + (1,))
            other = self.behind(sets, row[2], path + (2,))
            return {**one, **other}
        source = self.bit(row[3], row[4])
        further = [defined for defined in sets if defined & source > 0]
        if len(further) < len(sets):
            self.stops[path] = True
        return self.behind_write(further, row[1], row[2])

    def behind(self, sets, rows, path):
        """The sets of defined cells behind a program."""
        for number, row in enumerate(rows):
            sets = self.behind_row(sets, row, path + (number,))
            if len(sets) > SETS:
                raise LimitExceeded(SETS)
        return sets

    def by_name(self, defined):
        """For each name the list of bools that tells of each element whether it is in a set of cells."""
        return {
            name: [defined & self.bits[cell] > 0 for cell in cells_of(place)]
            for name, place in self.places.items()
        }


def all_runs(units, variables, rows):
    """The runs of what may be a program, and the list of the sets of defined cells at its end."""
    check_storage(units, variables)
    places = places_by_name(variables)
    check_program(places, rows)
    runs = Runs(places)
    return runs, list(runs.behind({0: True}, rows, ()))


def surely(units, variables, rows):
    """For each name the list of bools that tells of each element whether it is defined behind all runs to the end."""
    runs, sets = all_runs(units, variables, rows)
    common = sum(list(runs.bits.values()))
    for defined in sets:
        common = common & defined
    return runs.by_name(common)


def perhaps(units, variables, rows):
    """For each name the list of bools that tells of each element whether it is defined behind some run to the end."""
    runs, sets = all_runs(units, variables, rows)
    found = 0
    for defined in sets:
        found = found | defined
    return runs.by_name(found)


def wrong_reads(units, variables, rows):
    """The ascending list of the paths of all rows that read an undefined element in some run."""
    return sorted(list(all_runs(units, variables, rows)[0].stops))
