"""ROWS of requests for one unit each: what is given, what is refused, and what changes with their order."""

from freightrights.checks import check_customers
from freightrights.covers import free_table, keeps_to, takings_within
from freightrights.errors import NoNumber
from freightrights.margins import Margins
from freightrights.nets import customer_names
from freightrights.plans import freight_for
from freightrights.shapes import frozen, is_hour


def given_of(table, row):
    """The tuple of True for each request of the ROW that is given, False for each that is refused."""
    margins = Margins(table)
    given = []
    for name in row:
        given.append(margins.room(name) > 0)
        if given[-1]:
            margins.take(name, 1)
    return tuple(given)


def served_of(names, table, row):
    """The TAKING that the ROW serves."""
    given = [name for name, answer in zip(row, given_of(table, row)) if answer]
    return tuple([given.count(name) for name in names])


def asked_of(names, row):
    """How often each customer asks."""
    return tuple([row.count(name) for name in names])


def table_for(net, arrivals, row):
    """The COVERS of all sets; raises NoCustomer for the first one of the ROW that is none."""
    check_customers(net, row)
    return free_table(net, arrivals)


def answers_to(net, arrivals, row):
    """The tuple of True for each request that is given, False for each that is refused."""
    net, arrivals, row = frozen((net, arrivals, row))
    return given_of(table_for(net, arrivals, row), row)


def row_serves(net, arrivals, row):
    """The TAKING that the ROW serves."""
    net, arrivals, row = frozen((net, arrivals, row))
    return served_of(customer_names(net), table_for(net, arrivals, row), row)


def row_for(net, arrivals, taking):
    """The ROW that serves the TAKING, the customers in their order."""
    net, arrivals, taking = frozen((net, arrivals, taking))
    freight_for(net, arrivals, taking)
    return tuple([name for name, many in zip(customer_names(net), taking) for _ in range(many)])


def first_changed(one, other):
    """The first place that is True in one, and not in the other; None if there is none."""
    for at, answer in enumerate(one):
        if answer and not other[at]:
            return at
    return None


def gets_instead(net, arrivals, row, place):
    """The place of the request that is refused, and is given if the one at this place is left out; None."""
    net, arrivals, row = frozen((net, arrivals, row))
    table = table_for(net, arrivals, row)
    if not is_hour(place, len(row)):
        raise NoNumber(place)
    without_it = given_of(table, row[:place] + row[place + 1:])
    return first_changed(without_it[:place] + (False,) + without_it[place:], given_of(table, row))


def gives_way(net, arrivals, row, place, name):
    """The place of the request that is given, and is refused if this customer asks just ahead of this place; None."""
    net, arrivals, row = frozen((net, arrivals, row))
    table = table_for(net, arrivals, row + (name,))
    if not is_hour(place, len(row) + 1):
        raise NoNumber(place)
    with_it = given_of(table, row[:place] + (name,) + row[place:])
    return first_changed(given_of(table, row), with_it[:place] + with_it[place + 1:])


def can_come_out(names, table, row, taking):
    """Whether these requests, in some order, serve the TAKING."""
    if any([number > many for number, many in zip(taking, asked_of(names, row))]):
        return False
    return keeps_to(names, table, taking) and sum(taking) == sum(served_of(names, table, row))


def is_outcome(net, arrivals, row, taking):
    """Whether these requests, in some order, serve the TAKING."""
    net, arrivals, row, taking = frozen((net, arrivals, row, taking))
    return can_come_out(customer_names(net), table_for(net, arrivals, row), row, taking)


def can_ask_now(margins, name, missing):
    """Whether this customer can ask now: it has to get more, or it is refused."""
    return missing[name] > 0 or margins.room(name) == 0


def order_to(net, arrivals, row, taking):
    """The least order of these requests that serves the TAKING; None if there is none.

    Whatever was asked in this way so far, the others can follow: first what is
    missing of the TAKING, then what is refused behind that.
    """
    net, arrivals, row, taking = frozen((net, arrivals, row, taking))
    table = table_for(net, arrivals, row)
    names = customer_names(net)
    if not can_come_out(names, table, row, taking):
        return None
    margins = Margins(table)
    missing = {name: number for name, number in zip(names, taking)}
    asking = {name: many for name, many in zip(names, asked_of(names, row))}
    order = []
    for _ in row:
        able = [name for name in names if asking[name] > 0 and can_ask_now(margins, name, missing)]
        order.append(able[0])
        asking[able[0]] -= 1
        if missing[able[0]] > 0:
            missing[able[0]] -= 1
            margins.take(able[0], 1)
    return tuple(order)


def outcomes(net, arrivals, row):
    """The set of all TAKINGS that these requests serve in some order."""
    net, arrivals, row = frozen((net, arrivals, row))
    table = table_for(net, arrivals, row)
    names = customer_names(net)
    total = sum(served_of(names, table, row))
    rows = takings_within(names, table, asked_of(names, row))
    return tuple([taking for taking in rows if sum(taking) == total])


def idle_asks(net, arrivals, row):
    """The set of the places whose request and the next one, of another customer, can change places for nothing."""
    net, arrivals, row = frozen((net, arrivals, row))
    table = table_for(net, arrivals, row)
    names = customer_names(net)
    now = served_of(names, table, row)
    found = []
    for at in range(len(row) - 1):
        other = row[:at] + (row[at + 1], row[at]) + row[at + 2:]
        if row[at] != row[at + 1] and served_of(names, table, other) == now:
            found.append(at)
    return tuple(found)


def parting_net(one, other):
    """A NET and ARRIVALS in which these ROWS serve unlike TAKINGS; None if they are the same.

    Only those who ask where the ROWS part for the first time have hours, and
    one unit more arrives than they have got by then.
    """
    one, other = frozen((one, other))
    if one == other:
        return None
    place = 0
    while one[place:place + 1] == other[place:place + 1]:
        place += 1
    parting = one[place:place + 1] + other[place:place + 1]
    amount = len([name for name in one[:place] if name in parting]) + 1
    names = sorted(set(one + other))
    customers = tuple([(name, "a", (0,) if name in parting else ()) for name in names])
    return (1, (("a", 0),), (), customers), (("a", 0, amount),)
