"""Promises: what customers have taken and surely can take still, hour by hour, whatever comes besides."""

from freightrights.books import book_of, lying_of
from freightrights.checks import check_customers, yard_row
from freightrights.covers import cover_of, free_table, taken_by
from freightrights.errors import CanNot, NoNumber
from freightrights.freight import open_freight
from freightrights.goods import merged, one_more
from freightrights.nets import customer_names
from freightrights.plans import are_moves, are_takes, is_plan, taking_of
from freightrights.shapes import frozen, is_from, is_hour, is_row
from freightrights.spreads import spread


def known_arrivals(real, told, hour):
    """The ARRIVALS of real at the hours up to hour, those of told behind it."""
    real, told = frozen((real, told))
    return merged([row for row in real if row[1] <= hour] + [row for row in told if row[1] > hour])


def net_left(net, hour):
    """The NET of the hours from hour on, numbered from 0; behind the last hour one without hours."""
    hours, yards, lines, customers = net
    left_own = [tuple([own - hour for own in row[2] if own >= hour]) for row in customers]
    rows = [(row[0], row[1], own) for row, own in zip(customers, left_own)]
    return hours - hour, yards, lines, tuple(rows)


def goods_left(net, arrivals, done, hour):
    """What lies over for hour, what is on lines still, and what arrives from hour on, as ARRIVALS of the NET left."""
    _, left_at = book_of(net, arrivals, done)
    lines = {row[0]: row for row in net[2]}
    rows = [(yard, 0, amount) for yard, now, amount in lying_of(net, left_at) if now == hour - 1]
    for line, start, amount in done[0]:
        _, _, goal, late, _ = lines[line]
        if start + late >= hour:
            rows.append((goal, start + late - hour, amount))
    return merged(rows + [(yard, now - hour, amount) for yard, now, amount in arrivals if now >= hour])


def left_net(net, hour):
    """The NET of the hours from hour on, numbered from 0."""
    return net_left(frozen(net), hour)


def left_arrivals(net, arrivals, done, hour):
    """The ARRIVALS of the NET of the hours from hour on: what lies over, is on lines still, arrives."""
    net, arrivals, done = frozen((net, arrivals, done))
    return goods_left(net, arrivals, done, hour)


def promises_of(net, arrivals, done, hour, wishes, classes):
    """The tuple of how much each customer has taken and is promised, together."""
    table = free_table(net_left(net, hour), goods_left(net, arrivals, done, hour))
    return spread(customer_names(net), table, wishes, classes, taking_of(net, done))


def promised(net, arrivals, done, hour, wishes, classes):
    """The tuple of how much each customer has taken and is promised, together."""
    net, arrivals, done, wishes, classes = frozen((net, arrivals, done, wishes, classes))
    return promises_of(net, arrivals, done, hour, wishes, classes)


def freight_on(net, arrivals, done, hour, taking):
    """A Freight of the NET left that serves what is missing of this TAKING; None if there is none."""
    missing = [number - taken for number, taken in zip(taking, taking_of(net, done))]
    if any([number < 0 for number in missing]):
        return None
    freight = open_freight(net_left(net, hour), goods_left(net, arrivals, done, hour), missing)
    return freight if freight.push() == sum(missing) else None


def can_go_on(net, arrivals, done, hour, taking):
    """Whether some PLAN that has all of done, and nothing more below hour, serves this TAKING."""
    net, arrivals, done, taking = frozen((net, arrivals, done, taking))
    return freight_on(net, arrivals, done, hour, taking) is not None


def later_by(rows, hour):
    """The triples, each so many hours later."""
    return tuple([(name, now + hour, amount) for name, now, amount in rows])


def put_together(one, other):
    """The pair of the moves of both, and of the takes of both."""
    return tuple(sorted(one[0] + other[0])), tuple(sorted(one[1] + other[1]))


def serving_on(net, arrivals, done, hour, taking):
    """What comes from hour on in a PLAN that has all of done and serves this TAKING; raises CanNot."""
    freight = freight_on(net, arrivals, done, hour, taking)
    if freight is None:
        raise CanNot()
    moves, takes = freight.plan()
    return later_by(moves, hour), later_by(takes, hour)


def plan_on(net, arrivals, done, hour, taking):
    """A PLAN that has all of done, and nothing more below hour, and serves this TAKING."""
    net, arrivals, done, taking = frozen((net, arrivals, done, taking))
    return put_together(done, serving_on(net, arrivals, done, hour, taking))


def step_at(net, arrivals, done, hour, wishes, classes):
    """Moves and takes of this hour with which one can go on to serve what is promised."""
    goal = promises_of(net, arrivals, done, hour, wishes, classes)
    moves, takes = serving_on(net, arrivals, done, hour, goal)
    return tuple([row for row in moves if row[1] == hour]), tuple([row for row in takes if row[1] == hour])


def next_hour(net, arrivals, done, hour, wishes, classes):
    """A pair (moves, takes) of this hour with which one can go on to serve what is promised."""
    net, arrivals, done, wishes, classes = frozen((net, arrivals, done, wishes, classes))
    return step_at(net, arrivals, done, hour, wishes, classes)


def is_step(net, hour, thing):
    """Whether thing is moves and takes as in a PLAN, all of this hour."""
    if not (is_row(thing, 2) and are_moves(net, thing[0]) and are_takes(net, thing[1])):
        return False
    return all([row[1] == hour for row in thing[0] + thing[1]])


def is_next_hour(net, arrivals, done, hour, wishes, classes, thing):
    """Whether thing is a pair (moves, takes) of this hour with which one can go on to serve what is promised."""
    net, arrivals, done, wishes, classes = frozen((net, arrivals, done, wishes, classes))
    if not is_step(net, hour, thing):
        return False
    then = put_together(done, thing)
    if not is_plan(net, arrivals, then):
        return False
    goal = promises_of(net, arrivals, done, hour, wishes, classes)
    return freight_on(net, arrivals, then, hour + 1, goal) is not None


def raised_by(net, arrivals, done, hour, wishes, classes, yard, when):
    """The customer whose promise is greater if one unit more arrives at this yard in the hour when; None."""
    net, arrivals, done, wishes, classes = frozen((net, arrivals, done, wishes, classes))
    yard_row(net, yard)
    if not (is_from(when, hour) and is_hour(when, net[0])):
        raise NoNumber(when)
    now = promises_of(net, arrivals, done, hour, wishes, classes)
    then = promises_of(net, one_more(arrivals, yard, when), done, hour, wishes, classes)
    raised = [name for name, old, new in zip(customer_names(net), now, then) if new > old]
    return raised[0] if raised else None


def missed(net, arrivals, done, hour, some):
    """How much the COVER of these customers is above what they have taken and can take still, together."""
    net, arrivals, done, some = frozen((net, arrivals, done, some))
    check_customers(net, some)
    still = cover_of(net_left(net, hour), goods_left(net, arrivals, done, hour), some)
    return cover_of(net, arrivals, some) - taken_by(net, taking_of(net, done), some) - still


def day_by_day(net, real, told, wishes, classes):
    """A PLAN made hour by hour, each hour by what is known then."""
    net, real, told, wishes, classes = frozen((net, real, told, wishes, classes))
    done = ((), ())
    for hour in range(net[0]):
        done = put_together(done, step_at(net, known_arrivals(real, told, hour), done, hour, wishes, classes))
    return done
