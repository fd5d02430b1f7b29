"""The entries of a NET, one by one and all together: whether they are such as a NET has."""

from freightrights.shapes import climbs, is_from, is_name, is_row, is_set_of_hours


def is_yard(thing):
    """Whether thing is a yard with its room."""
    return is_row(thing, 2) and is_name(thing[0]) and is_from(thing[1], 0)


def is_known(thing, rooms):
    """Whether thing is one of the yards of these rooms."""
    return isinstance(thing, str) and thing in rooms


def is_line(thing, rooms):
    """Whether thing is a line between two of the yards of these rooms."""
    if not (is_row(thing, 5) and is_name(thing[0])):
        return False
    _, start, goal, late, most = thing
    if not (is_known(start, rooms) and is_known(goal, rooms) and start != goal):
        return False
    return is_from(late, 0) and is_from(most, 0)


def is_customer(thing, rooms, hours):
    """Whether thing is a customer at one of the yards of these rooms, in some of so many hours."""
    if not (is_row(thing, 3) and is_name(thing[0])):
        return False
    return is_known(thing[1], rooms) and is_set_of_hours(thing[2], hours)


def firsts_climb(rows):
    """Whether the first parts of the rows stand in ascending order, all unlike."""
    return climbs([row[0] for row in rows])


def have_ring(lines):
    """Whether lines with late 0 make a ring.

    Yards to which no such line comes any more are left one by one, with the
    lines from them: just what stands in a ring, or behind one, stays.
    """
    goals = {}
    coming = {}
    many = 0
    for _, start, goal, late, _ in lines:
        if late == 0:
            goals.setdefault(start, []).append(goal)
            coming[goal] = coming.get(goal, 0) + 1
            many += 1
    free = [yard for yard in goals if yard not in coming]
    while free:
        yard = free.pop()
        for goal in goals.get(yard, []):
            many -= 1
            coming[goal] -= 1
            if coming[goal] == 0:
                free.append(goal)
    return many > 0


def are_yards(thing):
    """Whether thing is the second part of a NET."""
    if not isinstance(thing, tuple) or thing == ():
        return False
    return all([is_yard(row) for row in thing]) and firsts_climb(thing)


def are_lines(thing, rooms):
    """Whether thing is the third part of a NET with these rooms."""
    if not isinstance(thing, tuple) or not all([is_line(row, rooms) for row in thing]):
        return False
    return firsts_climb(thing) and not have_ring(thing)


def are_customers(thing, rooms, hours):
    """Whether thing is the fourth part of a NET with these rooms and hours."""
    if not isinstance(thing, tuple):
        return False
    return all([is_customer(row, rooms, hours) for row in thing]) and firsts_climb(thing)


def is_whole_net(thing):
    """Whether thing is a NET."""
    if not is_row(thing, 4) or not is_from(thing[0], 1) or not are_yards(thing[1]):
        return False
    rooms = dict(thing[1])
    return are_lines(thing[2], rooms) and are_customers(thing[3], rooms, thing[0])


def goes_on(hours, parts, part, entry):
    """Whether with this entry, put behind those of its part, there is a NET, as far as is told."""
    if entry is None or any([parts[later] for later in range(part + 1, 3)]):
        return False
    if not firsts_climb(parts[part][-1:] + [entry]):
        return False
    if part == 0:
        return is_yard(entry)
    rooms = dict(parts[0])
    if part == 2:
        return is_customer(entry, rooms, hours)
    return is_line(entry, rooms) and not (entry[3] == 0 and have_ring(parts[1] + [entry]))


def is_goods_row(thing):
    """Whether thing is a yard, an hour and an amount as in ARRIVALS of some NET."""
    if not (is_row(thing, 3) and is_name(thing[0])):
        return False
    return is_from(thing[1], 0) and is_from(thing[2], 1)
