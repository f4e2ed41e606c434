"""Sets of all n at which something holds that depends on numbers which are linear in n.

For the n of one residue MARKS are integers that change evenly, such that something holds for all or for none of the
n between two at which a mark changes its sign. So a few n tell of all of them.
"""

from sectionwise.nsets import least_period, set_of


def sign_changes(mark, next_mark):
    """The turns above 0 at which a mark that changes evenly becomes 0, or gets another sign."""
    change = next_mark - mark
    if change == 0:
        return []
    if change < 0:
        mark, change = -mark, -change
    return [turn for turn in (-(mark // change), -mark // change + 1) if turn > 0]


def flips_of(residue, period, marks, holds):
    """The list of tuples (n, whether it holds) for the least n of a residue, and for each n at which that changes."""
    turns = [0]
    for mark, next_mark in zip(marks(residue), marks(residue + period)):
        turns.extend(sign_changes(mark, next_mark))
    told = []
    for turn in sorted(set(turns)):
        n = residue + turn * period
        is_held = holds(n)
        if len(told) == 0 or told[-1][1] != is_held:
            told.append((n, is_held))
    return told


def sign_from(flips, first):
    """The sign of what holds at a number, and the list of the next flip behind it, if there is one."""
    sign = "0"
    for n, is_held in flips:
        if n > first:
            return sign, [n]
        sign = "1" if is_held else "0"
    return sign, []


def segments_by(rows):
    """The segments of a set of which the flips are told for each residue."""
    period = len(rows)
    told = []
    start = 0
    while start is not None:
        signs, ends = [], []
        for residue, flips in enumerate(rows):
            sign, behind = sign_from(flips, start + (residue - start) % period)
            signs.append(sign)
            ends.extend(behind)
        text = "".join(signs)
        told.append((start, text[:least_period(text)]))
        start = min(ends, default=None)
    return told


def set_where(period, marks, holds):
    """The set of all n at which holds(n) is True, where marks(n) are the marks of an n."""
    return set_of(period, segments_by([flips_of(residue, period, marks, holds) for residue in range(period)]))
