"""Sets of numbers n, from 0 on, that from some number on repeat with a period.

SEGMENTS are a list of tuples (start, text), the first one from 0 on, each up to the start of the next one: there n is
in the set if the text, a row of signs 0 and 1, has a 1 at n modulo its length. So nothing is gone through from one
far number to another one.
"""

from math import lcm

from sectionwise.errors import InvalidArgument, LimitExceeded
from sectionwise.parts import is_far, is_number

ROWS = 50
STEP = 100
PERIOD = 27720
SIGNS = 2000


def is_from_zero(value):
    """Whether any value is a far number from 0 on."""
    return is_far(value) and value >= 0


def check_from_zero(value, name):
    """Refuse the argument of this name if it is no far number from 0 on."""
    if not is_from_zero(value):
        raise InvalidArgument(name)


def is_row(value):
    """Whether any value is a row (first, step, last)."""
    if not isinstance(value, tuple) or len(value) != 3:
        return False
    first, step, last = value
    if not is_from_zero(first) or not is_number(step) or not 1 <= step <= STEP:
        return False
    return last is None or (is_from_zero(last) and last >= first)


def are_rows(value):
    """Whether any value is a list or tuple of so few rows."""
    if not isinstance(value, (list, tuple)) or len(value) > ROWS:
        return False
    return all([is_row(row) for row in value])


def common_period(periods):
    """The least common multiple of all periods; refused if it is too great."""
    period = 1
    for number in periods:
        period = lcm(period, number)
    if period > PERIOD:
        raise LimitExceeded(PERIOD)
    return period


def text_of(rows):
    """The text of all numbers of rows, as if they had no first and no last number."""
    length = common_period([step for _, step, _ in rows])
    signs = ["0"] * length
    for first, step, _ in rows:
        signs[first % step::step] = ["1"] * (length // step)
    return "".join(signs)


def segments_of(rows):
    """The segments of all numbers of rows."""
    starts = [0] + [first for first, _, _ in rows] + [last + 1 for _, _, last in rows if last is not None]
    told = []
    for start in sorted(set(starts)):
        there = [row for row in rows if row[0] <= start and (row[2] is None or row[2] >= start)]
        told.append((start, text_of(there)))
    return without_repeats(told)


def without_repeats(segments):
    """The same segments, those with the text of the one ahead being one with it."""
    return [
        segment for at, segment in enumerate(segments)
        if at == 0 or segment[1] != segments[at - 1][1]
    ]


def with_ends(segments):
    """The list of tuples (start, end, text), end being the start of the next segment, None of the last one."""
    ends = [start for start, _ in segments[1:]] + [None]
    return [(start, end, text) for (start, text), end in zip(segments, ends)]


def texts_at(segments, numbers):
    """The list of the texts that hold at ascending numbers."""
    told = []
    at = 0
    for number in numbers:
        while at + 1 < len(segments) and segments[at + 1][0] <= number:
            at = at + 1
        told.append(segments[at][1])
    return told


def next_in(text, number):
    """The least number from a number on at which a text has a 1, None if it has none."""
    turn = number % len(text)
    at = (text + text).find("1", turn)
    return None if at < 0 else number - turn + at


def last_in(text, number):
    """The greatest number up to a number, perhaps below 0, at which a text has a 1, None if it has none."""
    turn = number % len(text)
    behind = len(text) + turn
    at = (text + text).rfind("1", 0, behind + 1)
    return None if at < 0 else number - behind + at


def many_in_text(text, number):
    """At how many numbers from 0 on, below a number, a text has a 1."""
    return number // len(text) * text.count("1") + text.count("1", 0, number % len(text))


def least_from(segments, low):
    """The least number of a set from low on, None if there is none."""
    for start, end, text in with_ends(segments):
        found = next_in(text, max(low, start))
        if found is not None and (end is None or found < end):
            return found
    return None


def greatest(segments):
    """The greatest number of a set that ends, None if it has no numbers."""
    told = None
    for start, end, text in with_ends(segments)[:-1]:
        found = last_in(text, end - 1)
        if found is not None and found >= start:
            told = found
    return told


def least_period(text):
    """The least length of a text that repeats to this text."""
    for length in range(1, len(text)):
        if len(text) % length == 0 and text == text[:length] * (len(text) // length):
            return length
    return len(text)


def both_signs(one, other):
    """Where two numbers have both the digit 1."""
    return one & other


def either_sign(one, other):
    """Where one of two numbers or both have the digit 1."""
    return one | other


def unlike_signs(one, other):
    """Where just one of two numbers has the digit 1."""
    return one ^ other


def combined_texts(text, other, way):
    """The text that a way makes of the signs of two texts."""
    length = lcm(len(text), len(other))
    signs = text * (length // len(text))
    others = other * (length // len(other))
    made = []
    # Piece by piece: numbers with many thousands of digits are not needed.
    for at in range(0, length, SIGNS):
        piece = signs[at:at + SIGNS]
        number = way(int(piece, 2), int(others[at:at + SIGNS], 2))
        made.append(f"{number:b}".zfill(len(piece)))
    return "".join(made)


def combined(segments, others, way):
    """The segments that a way makes of those of two sets."""
    starts = sorted(set([start for start, _ in segments + others]))
    return without_repeats([
        (start, combined_texts(text, other, way))
        for start, text, other in zip(starts, texts_at(segments, starts), texts_at(others, starts))
    ])


class NSet:
    """The set of all numbers of rows (first, step, last), last being None for a row without an end.

    Its period is the least common multiple of all steps from which it comes, not the least one.
    """

    def __init__(self, rows):
        if not are_rows(rows):
            raise InvalidArgument("rows")
        self.period = common_period([step for _, step, _ in rows])
        self.segments = segments_of(rows)

    def has(self, n):
        """Whether a number is in the set."""
        check_from_zero(n, "n")
        text = texts_at(self.segments, [n])[0]
        return text[n % len(text)] == "1"

    def least(self, low=0):
        """The least number of the set from low on, None if there is none."""
        check_from_zero(low, "low")
        return least_from(self.segments, low)

    def how_many(self, bound):
        """How many numbers of the set are below a bound."""
        check_from_zero(bound, "bound")
        many = 0
        for start, end, text in with_ends(self.segments):
            stop = bound if end is None else min(bound, end)
            if start < stop:
                many = many + many_in_text(text, stop) - many_in_text(text, start)
        return many

    def tail(self):
        """The tuple (bound, period, residues) of what the set is from the bound on; both are the least."""
        text = self.segments[-1][1]
        period = least_period(text)
        last = greatest(combined(self.segments, [(0, text)], unlike_signs))
        bound = 0 if last is None else last + 1
        return bound, period, [residue for residue in range(period) if text[residue] == "1"]

    def __eq__(self, other):
        """Whether the other one is a set of the same numbers."""
        return isinstance(other, NSet) and has_same_numbers(self, other)


def has_same_numbers(one, other):
    """Whether two sets have the same numbers."""
    common_period([one.period, other.period])
    return least_from(combined(one.segments, other.segments, unlike_signs), 0) is None


def set_of(period, segments):
    """The set of these segments, which comes from steps with this period."""
    made = NSet([])
    made.period = period
    made.segments = segments
    return made


def combined_sets(one, other, way):
    """The set that a way makes of what may be two sets."""
    if not isinstance(one, NSet):
        raise InvalidArgument("one")
    if not isinstance(other, NSet):
        raise InvalidArgument("other")
    period = common_period([one.period, other.period])
    return set_of(period, combined(one.segments, other.segments, way))


def union(one, other):
    """The set of the numbers that are in one of two sets, or in both."""
    return combined_sets(one, other, either_sign)


def meet(one, other):
    """The set of the numbers that are in both of two sets."""
    return combined_sets(one, other, both_signs)


def complement(one):
    """The set of the numbers from 0 on that are not in a set."""
    if not isinstance(one, NSet):
        raise InvalidArgument("one")
    return set_of(one.period, combined(one.segments, [(0, "1")], unlike_signs))
