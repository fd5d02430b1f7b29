"""PLANS: whether they can be, what lies where by them, PLANS for TAKINGS, moves that are idle."""

from freightrights.books import book_of, lying_of, spare_of
from freightrights.checks import check_spot
from freightrights.errors import CanNot
from freightrights.freight import SINK, SOURCE, Freight, open_freight
from freightrights.shapes import climbs, frozen, is_from, is_hour, is_number, is_row


def is_part(thing, names):
    """Whether thing is a tuple of triples of one of these names, a number, an amount, ascending by the first two."""
    if not isinstance(thing, tuple):
        return False
    for row in thing:
        if not (is_row(row, 3) and isinstance(row[0], str) and row[0] in names):
            return False
        if not (is_number(row[1]) and is_from(row[2], 1)):
            return False
    return climbs([row[:2] for row in thing])


def are_moves(net, thing):
    """Whether thing is moves that the lines bear."""
    lines = {row[0]: row for row in net[2]}
    if not is_part(thing, lines):
        return False
    for line, hour, amount in thing:
        _, _, _, late, most = lines[line]
        if not is_hour(hour, net[0] - late) or amount > most:
            return False
    return True


def are_takes(net, thing):
    """Whether thing is takes by customers in hours of their own."""
    hours = {row[0]: row[2] for row in net[3]}
    return is_part(thing, hours) and all([hour in hours[customer] for customer, hour, _ in thing])


def is_plan(net, arrivals, thing):
    """Whether thing is a PLAN."""
    net, arrivals = frozen((net, arrivals))
    if not (is_row(thing, 2) and are_moves(net, thing[0]) and are_takes(net, thing[1])):
        return False
    _, left_at = book_of(net, arrivals, thing)
    return min(list(left_at.values())) >= 0


def taking_of(net, plan):
    """The TAKING that the PLAN serves."""
    return tuple([sum([row[2] for row in plan[1] if row[0] == customer]) for customer, _, _ in net[3]])


def there(net, arrivals, plan, yard, hour):
    """How much is there at this spot."""
    net, arrivals, plan = frozen((net, arrivals, plan))
    check_spot(net, yard, hour)
    there_at, _ = book_of(net, arrivals, plan)
    return there_at[(yard, hour)]


def left(net, arrivals, plan, yard, hour):
    """How much is left at this spot."""
    net, arrivals, plan = frozen((net, arrivals, plan))
    check_spot(net, yard, hour)
    _, left_at = book_of(net, arrivals, plan)
    return left_at[(yard, hour)]


def lying(net, arrivals, plan):
    """What lies over from each hour to the next one."""
    net, arrivals, plan = frozen((net, arrivals, plan))
    _, left_at = book_of(net, arrivals, plan)
    return lying_of(net, left_at)


def given_back(net, arrivals, plan):
    """How much is given back in all."""
    net, arrivals, plan = frozen((net, arrivals, plan))
    _, left_at = book_of(net, arrivals, plan)
    return sum(list(left_at.values())) - sum([row[2] for row in lying_of(net, left_at)])


def freight_for(net, arrivals, taking):
    """A Freight that serves this TAKING; raises CanNot if there is none."""
    freight = open_freight(net, arrivals, taking)
    if freight.push() < sum(taking):
        raise CanNot()
    return freight


def plan_for(net, arrivals, taking):
    """A PLAN that serves this TAKING."""
    net, arrivals, taking = frozen((net, arrivals, taking))
    return freight_for(net, arrivals, taking).plan()


def is_plan_for(net, arrivals, taking, thing):
    """Whether thing is a PLAN that serves this TAKING."""
    return is_plan(net, arrivals, thing) and taking_of(net, thing) == frozen(taking)


def to_spare(net, arrivals, plan, yard, hour):
    """How much could be taken away at this spot, all moves and takes as they are."""
    net, arrivals, plan = frozen((net, arrivals, plan))
    check_spot(net, yard, hour)
    _, left_at = book_of(net, arrivals, plan)
    return spare_of(net, left_at)[(yard, hour)]


def idle_moves(net, arrivals, plan):
    """The set of the pairs (line, hour) of idle moves: there is something to spare where they come."""
    net, arrivals, plan = frozen((net, arrivals, plan))
    _, left_at = book_of(net, arrivals, plan)
    spare_at = spare_of(net, left_at)
    ends = {line: (goal, late) for line, _, goal, late, _ in net[2]}
    return tuple([(line, hour) for line, hour, _ in plan[0] if spare_at[(ends[line][0], hour + ends[line][1])] > 0])


def taken_within(net, arrivals, takes, mosts):
    """How much of just these takes can be served if so much can leave on each line and hour."""
    freight = Freight(net, arrivals)
    freight.lay_lines(mosts)
    yards = {row[0]: row[1] for row in net[3]}
    for customer, hour, amount in takes:
        freight.flow.lay(freight.places[(yards[customer], hour)], SINK, amount)
    return freight.flow.push(SOURCE, SINK)


def leaner(net, arrivals, plan):
    """A PLAN with the takes of plan, no move greater, none idle.

    Each move in turn is made as small as it can be beside what the others may
    carry by now: what cannot be served without it. So later ones, which only
    become smaller, cannot make it idle again.
    """
    net, arrivals, plan = frozen((net, arrivals, plan))
    moves, takes = plan
    total = sum([row[2] for row in takes])
    mosts = {(line, hour): amount for line, hour, amount in moves}
    for line, hour, _ in moves:
        mosts[(line, hour)] = 0
        mosts[(line, hour)] = total - taken_within(net, arrivals, takes, mosts)
    return tuple([key + (mosts[key],) for key in sorted(mosts) if mosts[key] > 0]), takes


def is_leaner(net, arrivals, plan, thing):
    """Whether thing is a PLAN with the takes of plan, no move greater, none idle."""
    moves, takes = frozen(plan)
    if not is_plan(net, arrivals, thing) or thing[1] != takes:
        return False
    mosts = {(line, hour): amount for line, hour, amount in moves}
    if not all([amount <= mosts.get((line, hour), 0) for line, hour, amount in thing[0]]):
        return False
    return idle_moves(net, arrivals, thing) == ()
