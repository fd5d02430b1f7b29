"""TRADES: units that go from one customer to another, to one from nobody, from one to nobody."""

from freightrights.checks import check_customers
from freightrights.covers import can_be, cover_of, free_table, lots_of
from freightrights.errors import CanNot
from freightrights.flows import Flow
from freightrights.freight import SOURCE
from freightrights.fulls import getting, getting_from
from freightrights.margins import Margins
from freightrights.nets import customer_names
from freightrights.plans import freight_for
from freightrights.shapes import frozen, is_from, is_row


def check_traders(net, giver, taker):
    """Raises NoCustomer for the first of them that is neither a customer nor the string without signs."""
    check_customers(net, [name for name in (giver, taker) if name != ""])


def has_form(thing, names):
    """Whether thing is a TRADE between some of these customers, whether it can be or not."""
    if not is_row(thing, 3) or not is_from(thing[2], 1):
        return False
    traders = names + ("",)
    return thing[0] in traders and thing[1] in traders and thing[0] != thing[1]


def moved(names, taking, trade):
    """The tuple of what each of these customers has behind the TRADE, whether it can be or not."""
    giver, taker, amount = trade
    more = {giver: -amount, taker: amount}
    return tuple([number + more.get(name, 0) for name, number in zip(names, taking)])


def is_possible(net, arrivals, behind):
    """Whether this tuple of numbers is a TAKING that can be."""
    return all([number >= 0 for number in behind]) and can_be(net, arrivals, behind)


def is_trade(net, arrivals, taking, thing):
    """Whether thing is a TRADE that can be."""
    net, arrivals, taking = frozen((net, arrivals, taking))
    freight_for(net, arrivals, taking)
    names = customer_names(net)
    return has_form(thing, names) and is_possible(net, arrivals, moved(names, taking, thing))


def behind_trade(net, arrivals, taking, trade):
    """The TAKING behind this TRADE."""
    net, arrivals, taking, trade = frozen((net, arrivals, taking, trade))
    check_traders(net, trade[0], trade[1])
    freight_for(net, arrivals, taking)
    behind = moved(customer_names(net), taking, trade)
    if not is_possible(net, arrivals, behind):
        raise CanNot()
    return behind


def trade_most(net, arrivals, taking, giver, taker):
    """The greatest amount with which this TRADE can be: as much as can flow over; 0 if none."""
    net, arrivals, taking = frozen((net, arrivals, taking))
    check_traders(net, giver, taker)
    freight = freight_for(net, arrivals, taking)
    names = customer_names(net)
    if taker == "":
        return taking[names.index(giver)]
    start = SOURCE if giver == "" else freight.node_of(names.index(giver))
    return freight.flow.push(start, freight.node_of(names.index(taker)))


def unit_trades(net, arrivals, taking):
    """The ascending list of all TRADES of amount 1 that can be; raises CanNot."""
    freight = freight_for(net, arrivals, taking)
    rows = [("", name, 1) for name in getting(freight)]
    for name, number in zip(customer_names(net), taking):
        if number > 0:
            rows = rows + [(name, taker, 1) for taker in ("",) + getting_from(net, freight, taking, name)]
    return sorted(rows)


def trades_from(net, arrivals, taking):
    """The ascending list of all TRADES of amount 1 that can be."""
    net, arrivals, taking = frozen((net, arrivals, taking))
    return unit_trades(net, arrivals, taking)


def least_units(one, other):
    """The greater one of two sums: of what has to be given, and of what has to be got, from one to other."""
    got = sum([max(0, new - old) for old, new in zip(one, other)])
    return max(got, got + sum(one) - sum(other))


def units_between(net, arrivals, one, other):
    """The least sum of the amounts of TRADES from one to other."""
    net, arrivals, one, other = frozen((net, arrivals, one, other))
    freight_for(net, arrivals, one)
    freight_for(net, arrivals, other)
    return least_units(one, other)


def ways_between(one, other):
    """Triples (node, node, amount): so much more is carried there by the Freight other than by one, exits left out."""
    exits = {arc: True for arc in one.exits}
    rows = []
    for arc in range(0, len(one.flow.goals), 2):
        more = other.flow.carried(arc) - one.flow.carried(arc)
        start, goal = one.flow.goals[arc + 1], one.flow.goals[arc]
        if more > 0 and arc not in exits:
            rows.append((start, goal, more))
        elif more < 0 and arc not in exits:
            rows.append((goal, start, -more))
    return rows


def carry(ways, many, start, goal, most):
    """The pair of how much can be carried on these ways from start to goal, at most so much, and the ways behind it.

    Ways only ever bear less, so what could not be carried once cannot be later.
    """
    flow = Flow(many + 1)
    arcs = [flow.lay(way[0], way[1], way[2]) for way in ways]
    flow.lay(many, start, most)
    amount = flow.push(many, goal)
    return amount, [(way[0], way[1], flow.spare[arc]) for way, arc in zip(ways, arcs)]


def trade_row(net, arrivals, one, other):
    """A tuple of TRADES from one to other, of as few units as can be, each pair of giver and taker at most once.

    Between two Freights that serve them all that is carried otherwise is led
    from givers to takers: with any part of it there still is a Freight.
    """
    net, arrivals, one, other = frozen((net, arrivals, one, other))
    here, there = freight_for(net, arrivals, one), freight_for(net, arrivals, other)
    nodes = {name: here.node_of(at) for at, name in enumerate(customer_names(net))}
    more = {name: new - old for name, old, new in zip(customer_names(net), one, other)}
    nodes[""] = SOURCE
    more[""] = sum(one) - sum(other)
    ways = ways_between(here, there)
    rows = []
    for giver in sorted(nodes):
        for taker in sorted(nodes):
            most = min(-more[giver], more[taker])
            if most > 0:
                amount, ways = carry(ways, len(here.flow.leaving), nodes[giver], nodes[taker], most)
                more[giver] += amount
                more[taker] -= amount
                if amount > 0:
                    rows.append((giver, taker, amount))
    return tuple(rows)


def behind_all(names, taking, trades):
    """The tuple of what each of these customers has behind all TRADES, whether they can be or not."""
    got = {name: number for name, number in zip(names, taking)}
    got[""] = 0
    for giver, taker, amount in trades:
        got[giver] -= amount
        got[taker] += amount
    return tuple([got[name] for name in names])


def have_room(names, table, taking, trades):
    """Whether each taker has room for what it gets, TRADE by TRADE."""
    margins = Margins(table)
    for name, number in zip(names, taking):
        margins.take(name, number)
    for giver, taker, amount in trades:
        if giver != "":
            margins.take(giver, -amount)
        if taker != "" and margins.room(taker) < amount:
            return False
        if taker != "":
            margins.take(taker, amount)
    return True


def is_trade_row(net, arrivals, one, other, thing):
    """Whether thing is a tuple of TRADES from one to other, each of which can be, of as few units as can be.

    With so few units nobody both gives and gets, so that nobody ever gives
    more than it has.
    """
    net, arrivals, one, other = frozen((net, arrivals, one, other))
    units = units_between(net, arrivals, one, other)
    names = customer_names(net)
    if not isinstance(thing, tuple) or not all([has_form(row, names) for row in thing]):
        return False
    if sum([row[2] for row in thing]) != units or behind_all(names, one, thing) != other:
        return False
    return have_room(names, free_table(net, arrivals), one, thing)


def best_trade(net, arrivals, taking, prices):
    """The least TRADE of amount 1 of those that make the worth greater, and as great as can be; None without one."""
    worths = {name: price for name, price in zip(customer_names(net), prices)}
    worths[""] = 0
    best = None
    most = 0
    for row in unit_trades(net, arrivals, taking):
        more = worths[row[1]] - worths[row[0]]
        if more > most:
            best = row
            most = more
    return best


def better_trade(net, arrivals, taking, prices):
    """The TRADE of amount 1 behind which the worth is greatest, and greater than before; None without one."""
    net, arrivals, taking, prices = frozen((net, arrivals, taking, prices))
    return best_trade(net, arrivals, taking, prices)


def is_best(net, arrivals, taking, prices):
    """Whether no TAKING that can be has a greater worth: no TRADE makes it greater."""
    return better_trade(net, arrivals, taking, prices) is None


def best_chain(net, arrivals, taking, prices):
    """For each price above 0, the greatest first, the customers with at least this price; None if it is not best."""
    net, arrivals, taking, prices = frozen((net, arrivals, taking, prices))
    if best_trade(net, arrivals, taking, prices) is not None:
        return None
    levels = sorted({price for price in prices if price > 0})[::-1]
    pairs = list(zip(customer_names(net), prices))
    return tuple([tuple([name for name, price in pairs if price >= level]) for level in levels])


def always_trades(net, arrivals):
    """The set of the pairs (giver, taker) by which taker can always get whatever giver has."""
    net, arrivals = frozen((net, arrivals))
    names = customer_names(net)
    pairs = [(giver, taker) for giver in names for taker in names if giver != taker]
    return tuple([row for row in pairs if cover_of(net, arrivals, row) == cover_of(net, arrivals, row[1:])])


def lots_apart(net, arrivals):
    """The set of the lots: the least sets whose COVER and that of all others come to the COVER of all."""
    net, arrivals = frozen((net, arrivals))
    return lots_of(free_table(net, arrivals))
