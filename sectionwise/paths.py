"""Programs of rows that write, copy, and choose between two programs; what rows are none."""

from sectionwise.errors import InvalidProgram
from sectionwise.parts import is_number

ROWS = 200
DEEPEST = 8


def is_element(places, name, k):
    """Whether any two values are the name of a variable and the number of one of its elements."""
    if not isinstance(name, str) or name not in places or not is_number(k):
        return False
    return 1 <= k <= places[name][2]


def is_write(places, row):
    """Whether a tuple is a row ("write", name, k, value)."""
    if len(row) != 4 or row[0] != "write":
        return False
    return is_element(places, row[1], row[2]) and is_number(row[3])


def is_copy(places, row):
    """Whether a tuple is a row ("copy", name, k, other, j) of variables of one kind."""
    if len(row) != 5 or row[0] != "copy":
        return False
    if not is_element(places, row[1], row[2]) or not is_element(places, row[3], row[4]):
        return False
    return places[row[1]][0] == places[row[3]][0]


def is_either(row, room):
    """Whether a tuple is a row ("either", rows, others) with what may be two programs, if there is room for one."""
    return len(row) == 3 and row[0] == "either" and room > 0


def check_program(places, rows, path=(), room=DEEPEST):
    """Refuse what is no program, with the path of what is none; eithers may stand so deep in one another."""
    if not isinstance(rows, (list, tuple)) or len(rows) > ROWS:
        raise InvalidProgram(path, "rows")
    for number, row in enumerate(rows):
        here = path + (number,)
        if not isinstance(row, tuple):
            raise InvalidProgram(here, "row")
        if is_either(row, room):
            check_program(places, row[1], here + (1,), room - 1)
            check_program(places, row[2], here + (2,), room - 1)
        elif not is_write(places, row) and not is_copy(places, row):
            raise InvalidProgram(here, "row")
