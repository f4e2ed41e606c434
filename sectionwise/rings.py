"""Lines of members that begin on the same unit of storage, and rings of steps that show that they cannot.

A LINE is a tuple (label, members) of two or more members, or one: tuples (name, ahead), such that the base of the
variable and so many units come to the same for all of them. SEATS are a dict that has for each name a tuple (group,
base), the bases of one group being told beside one another; what a group is called is of no account.
"""


def seats_apart(names):
    """The seats of variables that are not linked."""
    return {name: (name, 0) for name in names}


def seats_behind(seats, members):
    """The seats where a line of members holds, too, None if it cannot hold."""
    first, ahead = members[0]
    for name, its_ahead in members[1:]:
        group, base = seats[first]
        other, its_base = seats[name]
        move = base + ahead - its_ahead - its_base
        if group != other:
            seats = {
                key: (group, at + move) if label == other else (label, at)
                for key, (label, at) in seats.items()
            }
        elif move != 0:
            return None
    return seats


def seats_by(names, lines):
    """The seats of variables where all lines hold, None if they cannot."""
    seats = seats_apart(names)
    for _, members in lines:
        seats = seats_behind(seats, members)
        if seats is None:
            return None
    return seats


def steps_by_name(names, lines):
    """For each name the list of steps (step, to, units) from it; of those to one name by as many units the first."""
    told = {name: {} for name in names}
    for label, members in lines:
        for at, (name, ahead) in enumerate(members):
            for to, (other, its_ahead) in enumerate(members):
                if at != to:
                    told[name].setdefault((other, ahead - its_ahead), (label, at, to))
    return {
        name: [(step, to, units) for (to, units), step in steps.items()]
        for name, steps in told.items()
    }


def ways_from(name, steps):
    """For each name that is reached from a name a tuple of the units on a shortest way and the list of its steps."""
    ways = {name: (0, [])}
    queue = [name]
    while len(queue) > 0:
        further = []
        for here in queue:
            units, way = ways[here]
            for step, to, more in steps[here]:
                if to not in ways:
                    ways[to] = (units + more, way + [step])
                    further.append(to)
        queue = further
    return ways


def ring_from(name, steps):
    """Of the rings of two shortest ways from a name and one step between them the first shortest, None without any."""
    ways = ways_from(name, steps)
    best = None
    for here, (units, way) in ways.items():
        for step, to, more in steps[here]:
            its_units, back = ways[to]
            if units + more != its_units and (best is None or len(way) + 1 + len(back) < len(best)):
                best = way + [step] + [(label, end, at) for label, at, end in back[::-1]]
    return best


def shortest_ring(names, lines):
    """A ring of lines with as few steps as there can be, a tuple; None if all lines can hold."""
    steps = steps_by_name(names, lines)
    # On a shortest ring, seen from one of its names, some step must lead beside the shortest ways.
    rings = [ring_from(name, steps) for name in names]
    found = [ring for ring in rings if ring is not None]
    return tuple(min(found, key=len)) if len(found) > 0 else None
