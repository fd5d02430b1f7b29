"""Least spreads: TAKINGS that lose least by all convex losses at once, and units given in rounds."""

from freightrights.covers import free_table, wished_cover
from freightrights.errors import CanNot
from freightrights.freight import open_freight
from freightrights.fulls import getting_from
from freightrights.groups import without
from freightrights.margins import Margins
from freightrights.nets import customer_names
from freightrights.plans import freight_for
from freightrights.shapes import frozen


def over(one, level):
    """The sum of what the numbers have above the level."""
    return sum([max(0, number - level) for number in one])


def telling_level(one, other):
    """The least level over which one has more than other; None if there is none.

    From one of the numbers to the next greater one what is over a level falls
    evenly: a division tells where one begins to have more.
    """
    low = 0
    less = 0
    for high in sorted(set(list(one) + list(other))):
        more = over(one, high) - over(other, high)
        if more > 0:
            return low + less * (high - low) // (less + more) + 1
        low = high
        less = -more
    return None


def give(margins, got, name, amount):
    """Gives this customer so much more."""
    margins.take(name, amount)
    got[name] += amount


def give_one_each(margins, wished, got, turn):
    """Gives each of these one unit more if it can be and its wish lets it; the list of those who get none."""
    out = []
    for name in turn:
        if got[name] < wished[name] and margins.room(name) > 0:
            give(margins, got, name, 1)
        else:
            out.append(name)
    return out


def shared_rise(margins, wished, got, turn, waiting):
    """In how many rounds each of these surely gets one unit more, before one that waits gets one, too."""
    level = got[turn[0]]
    bounds = [wished[name] - level for name in turn] + [got[name] - level for name in waiting]
    return min(bounds + [margins.rise(turn)])


def give_in_rounds(margins, wished, got, order):
    """Gives units in rounds: in each round those who have least of all get one more, one behind another.

    Who gets none once gets none any more. Rounds in which all get one are
    given at once, so that their number does not grow with the amounts.
    """
    able = [name for name in order if got[name] < wished[name]]
    while able:
        level = min([got[name] for name in able])
        turn = [name for name in able if got[name] == level]
        more = shared_rise(margins, wished, got, turn, without(able, turn))
        if more > 0:
            for name in turn:
                give(margins, got, name, more)
        else:
            able = without(able, give_one_each(margins, wished, got, turn))


def spread(names, table, wishes, classes, before):
    """The tuple of what each customer has behind all rounds, class by class; before is what each has at first.

    The table tells how much each set of customers can get more.
    """
    margins = Margins(table)
    wished = {name: wish for name, wish in zip(names, wishes)}
    got = {name: number for name, number in zip(names, before)}
    for order in classes:
        give_in_rounds(margins, wished, got, order)
    return tuple([got[name] for name in names])


def spread_from_nothing(net, arrivals, wishes, classes):
    """The TAKING that comes if one class behind another one gets units in rounds; in a class in its order."""
    names = customer_names(net)
    return spread(names, free_table(net, arrivals), wishes, classes, [0] * len(names))


def unit_moves(net, arrivals, wishes, taking):
    """The list of all pairs (giver, getter) between whom a unit of this TAKING can go, no wish being passed."""
    freight = freight_for(net, arrivals, taking)
    open_to = [name for name, number, wish in zip(customer_names(net), taking, wishes) if number < wish]
    rows = []
    for giver in customer_names(net):
        getters = getting_from(net, freight, taking, giver)
        rows = rows + [(giver, getter) for getter in getters if getter in open_to]
    return rows


def is_top(net, arrivals, wishes, taking):
    """Whether the tuple is a BEST TAKING."""
    if any([number > wish for number, wish in zip(taking, wishes)]):
        return False
    most = wished_cover(net, arrivals, wishes, customer_names(net))
    return sum(taking) == most and open_freight(net, arrivals, taking).push() == most


def least_unit_move(net, arrivals, wishes, taking):
    """The least pair (giver, getter), the getter with two less at least, between whom a unit can go; None."""
    has = {name: number for name, number in zip(customer_names(net), taking)}
    rows = [row for row in unit_moves(net, arrivals, wishes, taking) if has[row[0]] - has[row[1]] >= 2]
    return rows[0] if rows else None


def is_least(net, arrivals, wishes, taking):
    """Whether it is a least TAKING: BEST, and no unit can go to one that has two less at least."""
    net, arrivals, wishes, taking = frozen((net, arrivals, wishes, taking))
    return is_top(net, arrivals, wishes, taking) and least_unit_move(net, arrivals, wishes, taking) is None


def unit_move(net, arrivals, wishes, taking):
    """The least pair (giver, getter) by which a BEST TAKING becomes another one that is less uneven; None."""
    net, arrivals, wishes, taking = frozen((net, arrivals, wishes, taking))
    if not is_top(net, arrivals, wishes, taking):
        raise CanNot()
    return least_unit_move(net, arrivals, wishes, taking)


def least_spread(net, arrivals, wishes, rank):
    """Of the least TAKINGS the one that gives most to the first customer of rank, then to the second one, and so on.

    In rounds in the order of the RANK whoever comes first gets what cannot
    be given to all.
    """
    net, arrivals, wishes, rank = frozen((net, arrivals, wishes, rank))
    return spread_from_nothing(net, arrivals, wishes, (rank,))


def all_least(net, arrivals, wishes):
    """The ascending list of all least TAKINGS.

    From each to each other one units lead, one behind another, that go to
    customers with just one less.
    """
    net, arrivals, wishes = frozen((net, arrivals, wishes))
    names = customer_names(net)
    found = {spread_from_nothing(net, arrivals, wishes, (names,)): True}
    ahead = list(found)
    while ahead:
        taking = ahead.pop()
        has = {name: number for name, number in zip(names, taking)}
        for giver, getter in unit_moves(net, arrivals, wishes, taking):
            turned = {giver: has[getter], getter: has[giver]}
            other = tuple([turned.get(name, has[name]) for name in names])
            if has[giver] == has[getter] + 1 and other not in found:
                found[other] = True
                ahead.append(other)
    return sorted(found)


def ladder(net, arrivals, wishes):
    """The ascending tuple of the RUNGS (level, more, customers)."""
    rows = all_least(net, arrivals, wishes)
    parts = {}
    for at, name in enumerate(customer_names(net)):
        low, high = min([row[at] for row in rows]), max([row[at] for row in rows])
        parts.setdefault((low, high), []).append(at)
    rungs = []
    for low, high in parts:
        more = len([at for at in parts[(low, high)] if rows[0][at] > low])
        rungs.append((low, more, tuple([customer_names(net)[at] for at in parts[(low, high)]])))
    return tuple(sorted(rungs))


def class_spread(net, arrivals, wishes, classes):
    """The TAKING that comes if one class behind another one gets units in rounds."""
    net, arrivals, wishes, classes = frozen((net, arrivals, wishes, classes))
    return spread_from_nothing(net, arrivals, wishes, classes)
