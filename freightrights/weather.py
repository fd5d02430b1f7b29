"""Weather: ARRIVALS of which some units stay out, and what is sure FOR ALL WEATHERS.

All numbers here rest on CUTS of which only certain ARRIVALS are far: all
others are raised so high that no least CUT counts them. There are few
ARRIVALS, so all sets of them are gone through.
"""

from freightrights.checks import check_customers
from freightrights.covers import cover_of, plenty_of, taken_by
from freightrights.cuts import short_cut, widest_cut
from freightrights.entries import is_goods_row
from freightrights.freight import open_freight
from freightrights.groups import all_sets, without
from freightrights.nets import arrives, customer_names
from freightrights.shapes import climbs, frozen, is_row, is_set_of


def is_weather(arrivals, most, thing):
    """Whether thing is a WEATHER of ARRIVALS and most."""
    arrivals = frozen(arrivals)
    if not isinstance(thing, tuple) or not all([is_goods_row(row) for row in thing]):
        return False
    amounts = {row[:2]: row[2] for row in arrivals}
    if not climbs([row[:2] for row in thing]) or not all([row[2] <= amounts.get(row[:2], 0) for row in thing]):
        return False
    return plenty_of(arrivals) - plenty_of(thing) <= most


def flooded(arrivals, out, amount):
    """The ARRIVALS without the triples that are out, and so much of each other one."""
    return tuple([row[:2] + (amount,) for row in without(arrivals, out)])


def floods(net, arrivals, ahead, some):
    """A row for all sets of ARRIVALS that may be far in a CUT for some.

    Each row tells the set, how much arrives by it, the least value of such a
    CUT but for what arrives, and the COVER of those ahead without the set.
    """
    many = plenty_of(arrivals) + 1
    rows = []
    for out in all_sets(arrivals):
        value = cover_of(net, flooded(arrivals, out, many), some)
        rows.append((out, plenty_of(out), value, cover_of(net, without(arrivals, out), ahead)))
    return rows


def least_behind(net, arrivals, most, ahead, some):
    """The pair of the least by which the COVER of some is above that of those ahead, and of what stays out then.

    Of what is far in a CUT for some as much stays out as can: each unit makes
    its value less by one, and the COVER of those ahead only where it must.
    """
    base = cover_of(net, arrivals, ahead)
    rows = floods(net, arrivals, ahead, some)
    return min([(value + max(amount - most - base, -rest), out) for out, amount, value, rest in rows])


def lowered(arrivals, spot, amount):
    """The ARRIVALS with so much less at this spot."""
    rows = [row[:2] + (row[2] - amount,) if row[:2] == spot else row for row in arrivals]
    return tuple([row for row in rows if row[2] > 0])


def weather_out(net, arrivals, most, out, ahead):
    """The WEATHER in which as much of out stays out as can, but nothing by which the COVER of those ahead is less.

    What they would feel makes the COVER of them and one more less by as much
    at the most: so the share of that one would not become less.
    """
    rest = min(most, plenty_of(out))
    for spot in [row[:2] for row in out]:
        here = arrives(arrivals, spot[0], spot[1])
        wanted = cover_of(net, arrivals, ahead) - cover_of(net, lowered(arrivals, spot, here), ahead)
        amount = min(rest, here - wanted)
        arrivals = lowered(arrivals, spot, amount)
        rest -= amount
    return arrivals


def sure_cover(net, arrivals, most, some):
    """The least COVER of this set in all WEATHERS."""
    net, arrivals, some = frozen((net, arrivals, some))
    check_customers(net, some)
    return least_behind(net, arrivals, most, (), some)[0]


def dry_weather(net, arrivals, most, some):
    """A WEATHER in which the COVER of this set is no more than the sure one."""
    net, arrivals, some = frozen((net, arrivals, some))
    check_customers(net, some)
    return weather_out(net, arrivals, most, least_behind(net, arrivals, most, (), some)[1], ())


def is_dry_weather(net, arrivals, most, some, thing):
    """Whether thing is such a WEATHER."""
    sure = sure_cover(net, arrivals, most, some)
    return is_weather(arrivals, most, thing) and cover_of(frozen(net), thing, some) <= sure


def first_broken(net, arrivals, taking):
    """The pair of the least most with which the TAKING cannot be in some WEATHER, and of what stays out; None.

    With just these ARRIVALS far some set takes more than the value of a CUT
    but for what arrives: so much may come still, and the TAKING cannot be.
    """
    rows = []
    for out in all_sets(arrivals):
        short = sum(taking) - open_freight(net, flooded(arrivals, out, sum(taking)), taking).push()
        if short > 0:
            rows.append((max(0, plenty_of(out) - short + 1), out))
    return min(rows) if rows else None


def fewest_out(net, arrivals, taking):
    """The least most with which the TAKING cannot be in some WEATHER; None if there is none."""
    net, arrivals, taking = frozen((net, arrivals, taking))
    found = first_broken(net, arrivals, taking)
    return None if found is None else found[0]


def surely_can_be(net, arrivals, most, taking):
    """Whether the TAKING can be in all WEATHERS."""
    fewest = fewest_out(net, arrivals, taking)
    return fewest is None or fewest > most


def breaking(net, arrivals, most, taking):
    """A pair of a WEATHER and of a set of customers that takes more than its COVER there; None if there is none."""
    net, arrivals, taking = frozen((net, arrivals, taking))
    found = first_broken(net, arrivals, taking)
    if found is None or found[0] > most:
        return None
    weather = weather_out(net, arrivals, most, found[1], ())
    return weather, short_cut(net, weather, taking)[0]


def is_breaking(net, arrivals, most, taking, thing):
    """Whether thing is such a pair."""
    net, arrivals, taking = frozen((net, arrivals, taking))
    if not is_row(thing, 2) or not is_weather(arrivals, most, thing[0]):
        return False
    if not is_set_of(thing[1], customer_names(net)):
        return False
    return taken_by(net, taking, thing[1]) > cover_of(net, thing[0], thing[1])


def those_ahead(rank, customer):
    """Those ahead of this customer in the RANK."""
    return rank[:rank.index(customer)]


def least_share(net, arrivals, most, rank, customer):
    """The pair of what this customer surely has by the RANK, and of what stays out when it has no more."""
    ahead = those_ahead(rank, customer)
    return least_behind(net, arrivals, most, ahead, ahead + (customer,))


def sure_shares(net, arrivals, most, rank):
    """The TAKING of what each customer surely has by this RANK."""
    net, arrivals, rank = frozen((net, arrivals, rank))
    return tuple([least_share(net, arrivals, most, rank, name)[0] for name in customer_names(net)])


def worst_weather(net, arrivals, most, rank, customer):
    """A WEATHER in which this customer has no more by the RANK than it surely has."""
    net, arrivals, rank = frozen((net, arrivals, rank))
    check_customers(net, (customer,))
    out = least_share(net, arrivals, most, rank, customer)[1]
    return weather_out(net, arrivals, most, out, those_ahead(rank, customer))


def is_worst_weather(net, arrivals, most, rank, customer, thing):
    """Whether thing is such a WEATHER."""
    net, arrivals, rank = frozen((net, arrivals, rank))
    check_customers(net, (customer,))
    if not is_weather(arrivals, most, thing):
        return False
    ahead = those_ahead(rank, customer)
    share = cover_of(net, thing, ahead + (customer,)) - cover_of(net, thing, ahead)
    return share <= least_share(net, arrivals, most, rank, customer)[0]


def fewest_out_for(net, arrivals, rank, customer, number):
    """The least most with which this customer has less than number in some WEATHER; None if there is none."""
    net, arrivals, rank = frozen((net, arrivals, rank))
    check_customers(net, (customer,))
    ahead = those_ahead(rank, customer)
    base = cover_of(net, arrivals, ahead)
    rows = floods(net, arrivals, ahead, ahead + (customer,))
    rows = [value + amount - base for _, amount, value, rest in rows if value - rest < number]
    return max(0, min(rows) - number + 1) if rows else None


def felt_spots(net, arrivals, some):
    """The set of the spots of ARRIVALS where one unit less makes the COVER less: those far in some narrowest CUT."""
    net, arrivals = frozen((net, arrivals))
    widest = widest_cut(net, arrivals, some)
    return tuple([row[:2] for row in arrivals if row[:2] in widest])
