"""CUTS: sets of far spots, what leads to them, and those of the least value."""

from freightrights.checks import check_customers, check_rank
from freightrights.freight import SINK, SOURCE, free_freight, open_freight
from freightrights.groups import all_unions, joined, lies_within
from freightrights.nets import spots, spots_of
from freightrights.shapes import climbs, frozen, is_number, is_row


def ways(net):
    """All pieces of lines and of rooms, ascending: tuples (piece, amount, spot it leads from, spot it leads to)."""
    hours, yards, lines, _ = net
    rows = []
    for line, start, goal, late, most in lines:
        for hour in range(hours - late):
            rows.append((("line", line, hour), most, (start, hour), (goal, hour + late)))
    for yard, room in yards:
        for hour in range(hours - 1):
            rows.append((("room", yard, hour), room, (yard, hour), (yard, hour + 1)))
    return rows


def is_spot(thing, known):
    """Whether thing is one of the known spots."""
    if not is_row(thing, 2):
        return False
    # True would be found in the place of 1, and a list cannot be looked up at all.
    return isinstance(thing[0], str) and is_number(thing[1]) and thing in known


def are_spots(net, thing):
    """Whether thing is a set of spots."""
    known = {spot: True for spot in spots(net)}
    return isinstance(thing, tuple) and all([is_spot(part, known) for part in thing]) and climbs(thing)


def is_cut(net, some, thing):
    """Whether thing is a CUT for these customers."""
    net, some = frozen((net, some))
    check_customers(net, some)
    return are_spots(net, thing) and lies_within(spots_of(net, some), thing)


def cut_pieces(net, arrivals, far):
    """The pieces that the value of these spots adds up, each with its amount."""
    net, arrivals, far = frozen((net, arrivals, far))
    rows = [("arrival",) + row for row in arrivals if row[:2] in far]
    leading = [piece + (amount,) for piece, amount, start, goal in ways(net) if start not in far and goal in far]
    return tuple(rows + leading)


def cut_value(net, arrivals, far):
    """The value of these spots."""
    return sum([row[3] for row in cut_pieces(net, arrivals, far)])


def least_far(freight):
    """The spots from which more could go to the customers of a free freight."""
    return freight.spots_marked(freight.flow.nodes_before(SINK), True)


def widest_far(freight):
    """The spots to which no more can come by a free freight."""
    return freight.spots_marked(freight.flow.nodes_after(SOURCE), False)


def far_with(freight, least, spot):
    """The spots that are far in each narrowest CUT in which this one is; least is the least CUT."""
    marks = freight.flow.nodes_before(freight.places[spot])
    return joined(least, freight.spots_marked(marks, True))


def short_cut(net, arrivals, wishes):
    """A set of customers that wish more than the value of a CUT for them, and this CUT; None if the WISHES can be."""
    freight = open_freight(net, arrivals, wishes)
    if freight.push() == sum(wishes):
        return None
    marks = freight.flow.nodes_before(SINK)
    return freight.customers_marked(marks), freight.spots_marked(marks, True)


def freight_to(net, arrivals, some):
    """A greatest Freight for these, which ought to be customers."""
    check_customers(net, some)
    return free_freight(net, arrivals, some)


def least_cut(net, arrivals, some):
    """The narrowest CUT for these customers that lies within all others."""
    net, arrivals, some = frozen((net, arrivals, some))
    return least_far(freight_to(net, arrivals, some))


def widest_cut(net, arrivals, some):
    """The narrowest CUT for these customers in which all others lie."""
    net, arrivals, some = frozen((net, arrivals, some))
    return widest_far(freight_to(net, arrivals, some))


def is_narrowest(net, arrivals, some, thing):
    """Whether thing is a narrowest CUT for these customers."""
    if not is_cut(net, some, thing):
        return False
    return cut_value(net, arrivals, thing) == cut_value(net, arrivals, least_cut(net, arrivals, some))


def narrowest_cuts(net, arrivals, some):
    """The ascending list of all narrowest CUTS for these customers.

    Each one is made of the least ones that have this or that spot.
    """
    net, arrivals, some = frozen((net, arrivals, some))
    freight = freight_to(net, arrivals, some)
    least = least_far(freight)
    free = [spot for spot in widest_far(freight) if spot not in least]
    return all_unions(least, [far_with(freight, least, spot) for spot in free])


def how_many_narrowest(net, arrivals, some):
    """How many narrowest CUTS for these customers there are."""
    return len(narrowest_cuts(net, arrivals, some))


def felt_pieces(net, arrivals, some):
    """The set of the pieces one more of which would make the COVER one more: each narrowest CUT counts them."""
    net, arrivals, some = frozen((net, arrivals, some))
    freight = freight_to(net, arrivals, some)
    least = least_far(freight)
    widest = widest_far(freight)
    leading = [piece for piece, _, start, goal in ways(net) if start not in widest and goal in least]
    return tuple([("arrival",) + spot for spot in least] + leading)


def wanted_pieces(net, arrivals, some):
    """The set of the pieces one less of which would make the COVER one less: some narrowest CUT counts them."""
    net, arrivals, some = frozen((net, arrivals, some))
    freight = freight_to(net, arrivals, some)
    least = least_far(freight)
    fars = {spot: far_with(freight, least, spot) for spot in widest_far(freight)}
    rows = [("arrival",) + row[:2] for row in arrivals if row[:2] in fars]
    for piece, amount, start, goal in ways(net):
        if amount > 0 and goal in fars and start not in fars[goal]:
            rows.append(piece)
    return tuple(rows)


def chain_of_cuts(net, arrivals, rank):
    """The least CUTS for no customer, for the first one of the RANK, for the first two, and so on."""
    net, arrivals, rank = frozen((net, arrivals, rank))
    check_rank(net, rank)
    return tuple([least_far(free_freight(net, arrivals, rank[:many])) for many in range(len(rank) + 1)])


def lost_between(net, one, other):
    """The sum of the mosts and rooms of what leads between a spot in one alone and a spot in other alone."""
    net, one, other = frozen((net, one, other))
    sides = {}
    for spot in joined(one, other):
        if (spot in one) != (spot in other):
            sides[spot] = spot in one
    rows = [row for row in ways(net) if row[2] in sides and row[3] in sides]
    return sum([amount for _, amount, start, goal in rows if sides[start] != sides[goal]])
