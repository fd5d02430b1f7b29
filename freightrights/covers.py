"""COVERS of sets of customers, and which TAKINGS can be."""

from freightrights.checks import check_customers
from freightrights.errors import OtherCustomers
from freightrights.freight import free_freight, limits_of, open_freight
from freightrights.groups import all_sets, joined, lies_within, without
from freightrights.nets import customer_names
from freightrights.plans import freight_for, is_plan, taking_of
from freightrights.shapes import frozen


def taken_by(net, taking, some):
    """How much these customers take together."""
    return sum([amount for name, amount in zip(customer_names(net), taking) if name in some])


def plenty_of(arrivals):
    """All that arrives: more than this nobody can take."""
    return sum([row[2] for row in arrivals])


def cover_of(net, arrivals, some):
    """The COVER of a set of customers."""
    return open_freight(net, arrivals, limits_of(net, some, plenty_of(arrivals))).push()


def cover_table(net, arrivals, limits):
    """A dict: how much each set of customers takes at the most, each of them within its limit.

    A set goes on from what is carried to the set without its last customer,
    which stands ahead of it.
    """
    names = customer_names(net)
    freight = open_freight(net, arrivals, [0] * len(names))
    table = {(): 0}
    saved = {(): freight.flow.saved()}
    for row in all_sets(names)[1:]:
        freight.flow.restore(saved[row[:-1]])
        at = names.index(row[-1])
        freight.allow(at, limits[at])
        table[row] = table[row[:-1]] + freight.push()
        saved[row] = freight.flow.saved()
    return table


def free_table(net, arrivals):
    """A dict of the COVERS of all sets of customers."""
    return cover_table(net, arrivals, [plenty_of(arrivals)] * len(net[3]))


def keeps_to(names, table, taking):
    """Whether no set of customers takes more than the table tells for it."""
    got = {name: number for name, number in zip(names, taking)}
    return all([sum([got[name] for name in some]) <= table[some] for some in table])


def takings_within(names, table, limits):
    """The ascending list of the TAKINGS that keep to the table, each number within its limit."""
    rows = [()]
    for limit in limits:
        rows = [row + (amount,) for row in rows for amount in range(limit + 1)]
    return [row for row in rows if keeps_to(names, table, row)]


def lots_of(table):
    """The set of the least sets, not (), such that what one and all others take comes to what all take."""
    names = max(table, key=len)
    apart = [row for row in table if row and table[row] + table[without(names, row)] == table[names]]
    inner = [row for row in apart if any([lies_within(other, row) and other != row for other in apart])]
    return tuple(sorted(without(apart, inner)))


def as_pairs(table):
    """The ascending tuple of the pairs of a dict."""
    return tuple([(key, table[key]) for key in sorted(table)])


def cover(net, arrivals, some):
    """The COVER of this set."""
    net, arrivals, some = frozen((net, arrivals, some))
    check_customers(net, some)
    return cover_of(net, arrivals, some)


def covers(net, arrivals):
    """The ascending tuple of the pairs (set, COVER) for all sets."""
    net, arrivals = frozen((net, arrivals))
    return as_pairs(free_table(net, arrivals))


def whole(net, arrivals):
    """The COVER of all customers."""
    net, arrivals = frozen((net, arrivals))
    return cover_of(net, arrivals, customer_names(net))


def gain(net, arrivals, some, name):
    """By how much the COVER of this set is greater with this customer, too."""
    net, arrivals, some = frozen((net, arrivals, some))
    check_customers(net, some + (name,))
    return cover_of(net, arrivals, joined(some, (name,))) - cover_of(net, arrivals, some)


def can_be(net, arrivals, taking):
    """Whether the TAKING can be."""
    net, arrivals, taking = frozen((net, arrivals, taking))
    return open_freight(net, arrivals, taking).push() == sum(taking)


def over_set(net, arrivals, taking):
    """Of the sets that take more than their COVER with the fewest customers the least; None if there is none."""
    net, arrivals, taking = frozen((net, arrivals, taking))
    table = free_table(net, arrivals)
    for row in sorted(all_sets(customer_names(net)), key=len):
        if taken_by(net, taking, row) > table[row]:
            return row
    return None


def room_beside(net, arrivals, taking, name):
    """How much more this customer can take, the others what they do."""
    net, arrivals, taking = frozen((net, arrivals, taking))
    check_customers(net, (name,))
    freight = freight_for(net, arrivals, taking)
    freight.allow(customer_names(net).index(name), freight.plenty)
    return freight.push()


def is_whole(net, arrivals, taking):
    """Whether the TAKING can be, and comes to the COVER of all."""
    return can_be(net, arrivals, taking) and sum(taking) == whole(net, arrivals)


def cover_plan(net, arrivals, some):
    """A PLAN by which these customers take their COVER."""
    net, arrivals, some = frozen((net, arrivals, some))
    check_customers(net, some)
    return free_freight(net, arrivals, some).plan()


def is_cover_plan(net, arrivals, some, thing):
    """Whether thing is a PLAN by which these customers take their COVER."""
    most = cover(net, arrivals, some)
    return is_plan(net, arrivals, thing) and taken_by(net, taking_of(net, thing), some) == most


def wished_cover(net, arrivals, wishes, some):
    """How much these customers take together at the most, none more than its WISH."""
    net, arrivals, wishes, some = frozen((net, arrivals, wishes, some))
    check_customers(net, some)
    limits = [wish if name in some else 0 for name, wish in zip(customer_names(net), wishes)]
    return open_freight(net, arrivals, limits).push()


def wished_covers(net, arrivals, wishes):
    """The ascending tuple of the pairs (set, what it takes at the most within WISHES) for all sets."""
    net, arrivals, wishes = frozen((net, arrivals, wishes))
    return as_pairs(cover_table(net, arrivals, wishes))


def are_apart(net, arrivals, one, other):
    """Whether the COVER of both together is the COVERS of both, added."""
    net, arrivals, one, other = frozen((net, arrivals, one, other))
    check_customers(net, one + other)
    apart = cover_of(net, arrivals, one) + cover_of(net, arrivals, other)
    return cover_of(net, arrivals, joined(one, other)) == apart


def same_covers(net, arrivals, other, later):
    """Whether all sets of customers have the same COVER in both."""
    net, arrivals, other, later = frozen((net, arrivals, other, later))
    if customer_names(net) != customer_names(other):
        raise OtherCustomers()
    return free_table(net, arrivals) == free_table(other, later)


def all_takings(net, arrivals):
    """The ascending list of the TAKINGS that can be: no set takes more than its COVER."""
    net, arrivals = frozen((net, arrivals))
    table = free_table(net, arrivals)
    names = customer_names(net)
    return takings_within(names, table, [table[(name,)] for name in names])


def how_many_takings(net, arrivals):
    """How many TAKINGS can be."""
    return len(all_takings(net, arrivals))
