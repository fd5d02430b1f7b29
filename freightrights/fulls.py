"""FULL sets of a TAKING: those that take just their COVER, who can get, and who can give to whom."""

from freightrights.checks import check_customers
from freightrights.covers import cover_of, taken_by
from freightrights.cuts import cut_value, is_cut, least_far
from freightrights.freight import SOURCE, free_freight
from freightrights.groups import all_unions, common, joined, lies_within, without
from freightrights.nets import customer_names
from freightrights.plans import freight_for, is_plan, taking_of
from freightrights.shapes import frozen


def getting(freight):
    """The set of those who can get: more goods could come to them."""
    return freight.customers_marked(freight.flow.nodes_after(SOURCE))


def getting_from(net, freight, taking, giver):
    """The set of those to whom the giver can give: what it takes could go to them instead."""
    at = customer_names(net).index(giver)
    if taking[at] == 0:
        return ()
    return without(freight.customers_marked(freight.flow.nodes_after(freight.node_of(at))), (giver,))


def giving_to(net, freight, taking, getter):
    """The set of those who can give to the getter."""
    names = customer_names(net)
    return tuple([name for name in names if getter in getting_from(net, freight, taking, name)])


def least_fulls(net, freight, taking):
    """A dict: for each customer of a FULL set the least one: itself and those who can give to it."""
    able = getting(freight)
    rows = {}
    for name in customer_names(net):
        if name not in able:
            rows[name] = joined((name,), giving_to(net, freight, taking, name))
    return rows


def fulls_of(net, arrivals, taking):
    """The ascending list of all FULL sets: each is made of least ones. Raises CanNot."""
    freight = freight_for(net, arrivals, taking)
    rows = least_fulls(net, freight, taking)
    return all_unions((), [rows[name] for name in rows])


def checked(net, arrivals, taking, names):
    """A Freight that serves the TAKING; raises CanNot, then NoCustomer for the first of names that is none."""
    freight = freight_for(net, arrivals, taking)
    check_customers(net, names)
    return freight


def takes_cover(net, arrivals, taking, some):
    """Whether these customers take just their COVER."""
    return taken_by(net, taking, some) == cover_of(net, arrivals, some)


def is_full(net, arrivals, taking, some):
    """Whether some is FULL."""
    net, arrivals, taking, some = frozen((net, arrivals, taking, some))
    checked(net, arrivals, taking, some)
    return takes_cover(net, arrivals, taking, some)


def full_sets(net, arrivals, taking):
    """The ascending list of all FULL sets."""
    net, arrivals, taking = frozen((net, arrivals, taking))
    return fulls_of(net, arrivals, taking)


def how_many_full(net, arrivals, taking):
    """How many FULL sets there are."""
    return len(full_sets(net, arrivals, taking))


def greatest_full(net, arrivals, taking):
    """The FULL set that has all others in it: of those who cannot get."""
    net, arrivals, taking = frozen((net, arrivals, taking))
    freight = freight_for(net, arrivals, taking)
    return without(customer_names(net), getting(freight))


def least_full(net, arrivals, taking, customer):
    """The FULL set with this customer that lies within all others with it; None if there is none."""
    net, arrivals, taking = frozen((net, arrivals, taking))
    freight = checked(net, arrivals, taking, (customer,))
    return least_fulls(net, freight, taking).get(customer)


def can_get(net, arrivals, taking):
    """The set of those who can get."""
    net, arrivals, taking = frozen((net, arrivals, taking))
    return getting(freight_for(net, arrivals, taking))


def can_give(net, arrivals, taking, one, other):
    """Whether one can give to other."""
    net, arrivals, taking = frozen((net, arrivals, taking))
    freight = checked(net, arrivals, taking, (one, other))
    return other in getting_from(net, freight, taking, one)


def givers(net, arrivals, taking, customer):
    """The set of those who can give to this customer."""
    net, arrivals, taking = frozen((net, arrivals, taking))
    freight = checked(net, arrivals, taking, (customer,))
    return giving_to(net, freight, taking, customer)


def getters(net, arrivals, taking, customer):
    """The set of those to whom this customer can give."""
    net, arrivals, taking = frozen((net, arrivals, taking))
    freight = checked(net, arrivals, taking, (customer,))
    return getting_from(net, freight, taking, customer)


def knots(net, arrivals, taking):
    """The set of the KNOTS: customers who are in just the same FULL sets."""
    net, arrivals, taking = frozen((net, arrivals, taking))
    fulls = fulls_of(net, arrivals, taking)
    parts = {}
    for name in customer_names(net):
        parts.setdefault(tuple([name in row for row in fulls]), []).append(name)
    return tuple(sorted([tuple(parts[mark]) for mark in parts]))


def full_chain(net, arrivals, taking):
    """A chain of FULL sets from () to the greatest one, none between two neighbours.

    By rising size: what lay between a set of the chain and the next one would
    have come ahead of that.
    """
    net, arrivals, taking = frozen((net, arrivals, taking))
    chain = [()]
    for row in sorted(fulls_of(net, arrivals, taking), key=len):
        if row != chain[-1] and lies_within(chain[-1], row):
            chain.append(row)
    return tuple(chain)


def are_next(fulls, one, other):
    """Whether one lies within other and is unlike it, and none of these FULL sets lies between them."""
    between = [row for row in fulls if lies_within(one, row) and lies_within(row, other) and row != one]
    return between == [other]


def is_full_chain(net, arrivals, taking, thing):
    """Whether thing is such a chain of FULL sets."""
    net, arrivals, taking = frozen((net, arrivals, taking))
    fulls = fulls_of(net, arrivals, taking)
    if not isinstance(thing, tuple) or not 1 <= len(thing) <= len(fulls):
        return False
    if not all([part in fulls for part in thing]) or thing[0] != ():
        return False
    if not all([are_next(fulls, thing[at], thing[at + 1]) for at in range(len(thing) - 1)]):
        return False
    return thing[-1] == max(fulls, key=len)


def full_paper(net, arrivals, taking, some):
    """A CUT for these whose value is what they take together; None if some is not FULL."""
    net, arrivals, taking, some = frozen((net, arrivals, taking, some))
    checked(net, arrivals, taking, some)
    if not takes_cover(net, arrivals, taking, some):
        return None
    return least_far(free_freight(net, arrivals, some))


def is_full_paper(net, arrivals, taking, some, thing):
    """Whether thing is a CUT for these whose value is what they take together."""
    net, arrivals, taking, some = frozen((net, arrivals, taking, some))
    checked(net, arrivals, taking, some)
    return is_cut(net, some, thing) and cut_value(net, arrivals, thing) == taken_by(net, taking, some)


def loose_paper(net, arrivals, taking, some):
    """A PLAN by which these take more together than by the TAKING; None if some is FULL."""
    net, arrivals, taking, some = frozen((net, arrivals, taking, some))
    checked(net, arrivals, taking, some)
    if takes_cover(net, arrivals, taking, some):
        return None
    return free_freight(net, arrivals, some).plan()


def is_loose_paper(net, arrivals, taking, some, thing):
    """Whether thing is a PLAN by which these take more together than by the TAKING."""
    net, arrivals, taking, some = frozen((net, arrivals, taking, some))
    checked(net, arrivals, taking, some)
    if not is_plan(net, arrivals, thing):
        return False
    return taken_by(net, taking_of(net, thing), some) > taken_by(net, taking, some)


def always_full(net, arrivals, some):
    """Whether some is FULL by each TAKING with the most in all."""
    net, arrivals, some = frozen((net, arrivals, some))
    check_customers(net, some)
    names = customer_names(net)
    parts = cover_of(net, arrivals, some) + cover_of(net, arrivals, without(names, some))
    return parts == cover_of(net, arrivals, names)


def both_full(net, arrivals, one, other):
    """Whether both sets are FULL by some one TAKING."""
    net, arrivals, one, other = frozen((net, arrivals, one, other))
    check_customers(net, one + other)
    both = cover_of(net, arrivals, joined(one, other)) + cover_of(net, arrivals, common(one, other))
    return cover_of(net, arrivals, one) + cover_of(net, arrivals, other) == both


def chain_taking(net, arrivals, sets):
    """A TAKING with the most in all by which all of these sets, each within the next one, are FULL.

    Each customer gets what the COVER grows by with it, those of the first set
    ahead of those of the next one, and so on.
    """
    net, arrivals, sets = frozen((net, arrivals, sets))
    for row in sets:
        check_customers(net, row)
    got = {}
    ahead = ()
    for row in sets + (customer_names(net),):
        new = without(row, ahead)
        for name in new:
            many = cover_of(net, arrivals, joined(ahead, (name,)))
            got[name] = many - cover_of(net, arrivals, ahead)
            ahead = joined(ahead, (name,))
    return tuple([got[name] for name in customer_names(net)])
