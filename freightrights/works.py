"""Works: two NETS with the same customers, who gets less or more there than here, FOR ALL RANKS."""

from freightrights.checks import check_customers, check_spot
from freightrights.covers import as_pairs, cover_of, free_table
from freightrights.cuts import least_cut
from freightrights.errors import OtherCustomers
from freightrights.goods import one_more
from freightrights.groups import joined, without
from freightrights.nets import customer_names
from freightrights.rows import given_of, table_for
from freightrights.shapes import frozen


def check_same_customers(net, new):
    """Raises OtherCustomers if the customers of both have not the same NAMES."""
    if customer_names(net) != customer_names(new):
        raise OtherCustomers()


def growth_table(net, arrivals, new, coming):
    """A dict of the GROWTH of all sets of customers; raises OtherCustomers."""
    net, arrivals, new, coming = frozen((net, arrivals, new, coming))
    check_same_customers(net, new)
    here, there = free_table(net, arrivals), free_table(new, coming)
    return {some: there[some] - here[some] for some in here}


def lost_behind(table, some, customer):
    """How much less this customer gets there than here behind this set; below 0 if it gets more."""
    return table[some] - table[joined(some, (customer,))]


def all_lost(table, customer):
    """The list of the pairs of how much less this customer gets behind a set, and the set, for all without it."""
    return [(lost_behind(table, some, customer), some) for some in table if customer not in some]


def table_with(net, arrivals, new, coming, customer):
    """A dict of the GROWTH of all sets of customers; raises OtherCustomers, then NoCustomer."""
    table = growth_table(net, arrivals, new, coming)
    check_customers(net, (customer,))
    return table


def growth(net, arrivals, new, coming, some):
    """The GROWTH of this set."""
    net, arrivals, new, coming, some = frozen((net, arrivals, new, coming, some))
    check_same_customers(net, new)
    check_customers(net, some)
    return cover_of(new, coming, some) - cover_of(net, arrivals, some)


def all_growths(net, arrivals, new, coming):
    """The ascending tuple of the pairs (set, GROWTH) of all sets."""
    return as_pairs(growth_table(net, arrivals, new, coming))


def falling(net, arrivals, new, coming):
    """The pair (set, customer), the set as small as can be, by which GROWTH falls; None if there is none."""
    table = growth_table(net, arrivals, new, coming)
    rows = []
    for customer in customer_names(net):
        rows = rows + [(len(some), some, customer) for lost, some in all_lost(table, customer) if lost > 0]
    return min(rows)[1:] if rows else None


def never_harms(net, arrivals, new, coming):
    """Whether GROWTH never falls."""
    return falling(net, arrivals, new, coming) is None


def losers(net, arrivals, new, coming):
    """The set of the customers that get less there than here by some RANK."""
    table = growth_table(net, arrivals, new, coming)
    return tuple([name for name in customer_names(net) if max(all_lost(table, name))[0] > 0])


def gainers(net, arrivals, new, coming):
    """The set of the customers that get more there than here by some RANK."""
    table = growth_table(net, arrivals, new, coming)
    return tuple([name for name in customer_names(net) if min(all_lost(table, name))[0] < 0])


def most_lost(net, arrivals, new, coming, customer):
    """The most by which this customer gets less there by a RANK, 0 if it never does."""
    lost, _ = max(all_lost(table_with(net, arrivals, new, coming, customer), customer))
    return max(0, lost)


def losing_rank(net, arrivals, new, coming, customer):
    """A RANK by which this customer gets as much less there as it ever does; None if it never gets less."""
    lost, some = max(all_lost(table_with(net, arrivals, new, coming, customer), customer))
    if lost <= 0:
        return None
    ahead = some + (customer,)
    return ahead + without(customer_names(net), ahead)


def is_losing_rank(net, arrivals, new, coming, customer, thing):
    """Whether thing is a RANK by which this customer gets as much less there as it ever does, and less at all."""
    table = table_with(net, arrivals, new, coming, customer)
    lost, _ = max(all_lost(table, customer))
    if lost <= 0 or not isinstance(thing, tuple) or not all([isinstance(name, str) for name in thing]):
        return False
    if tuple(sorted(thing)) != customer_names(net):
        return False
    some = tuple(sorted(thing[:thing.index(customer)]))
    return lost_behind(table, some, customer) == lost


def lost_units(net, arrivals, new, coming, row):
    """The set of the places of this ROW whose request is given here and refused there."""
    net, arrivals, new, coming, row = frozen((net, arrivals, new, coming, row))
    check_same_customers(net, new)
    here = given_of(table_for(net, arrivals, row), row)
    there = given_of(table_for(new, coming, row), row)
    return tuple([at for at in range(len(row)) if here[at] and not there[at]])


def growing_spots(net, arrivals, some):
    """The set of the spots at which one unit more lets these take one more: those in each narrowest CUT."""
    return least_cut(net, arrivals, some)


def helped(net, arrivals, yard, hour):
    """The set of the customers that get more by some RANK if one unit more arrives at this spot."""
    net, arrivals = frozen((net, arrivals))
    check_spot(net, yard, hour)
    return gainers(net, arrivals, net, one_more(arrivals, yard, hour))
