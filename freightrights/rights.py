"""Rights by RANK: what the customers get if one behind another takes all that can be beside those ahead."""

from freightrights.checks import check_customers, check_rank
from freightrights.covers import cover_of, free_table, plenty_of, taken_by
from freightrights.errors import NoNumber
from freightrights.freight import open_freight
from freightrights.groups import all_sets, joined, without
from freightrights.nets import customer_names
from freightrights.shapes import frozen, is_hour


def shares_along(net, arrivals, wishes, rank):
    """The TAKING in which one behind another gets as much as can be beside those ahead, at most its wish."""
    names = customer_names(net)
    freight = open_freight(net, arrivals, [0] * len(names))
    got = {}
    for name in rank:
        at = names.index(name)
        freight.allow(at, wishes[at])
        got[name] = freight.push()
    return tuple([got[name] for name in names])


def free_shares(net, arrivals, rank):
    """The TAKING by this RANK."""
    return shares_along(net, arrivals, [plenty_of(arrivals)] * len(net[3]), rank)


def by_rank(net, arrivals, rank):
    """The TAKING of what each customer adds to the COVER of those ahead of it."""
    net, arrivals, rank = frozen((net, arrivals, rank))
    check_rank(net, rank)
    return free_shares(net, arrivals, rank)


def by_rank_wished(net, arrivals, wishes, rank):
    """The TAKING in which each customer gets as much as can be beside those ahead, at most its wish."""
    net, arrivals, wishes, rank = frozen((net, arrivals, wishes, rank))
    check_rank(net, rank)
    return shares_along(net, arrivals, wishes, rank)


def weights_against(net, arrivals, rank, taking):
    """Weights of 1 for the shortest beginning of the RANK that takes less than its COVER; None if there is none."""
    net, arrivals, rank, taking = frozen((net, arrivals, rank, taking))
    check_rank(net, rank)
    for many in range(1, len(rank) + 1):
        ahead = rank[:many]
        if taken_by(net, taking, ahead) < cover_of(net, arrivals, ahead):
            return tuple([1 if name in ahead else 0 for name in customer_names(net)])
    return None


def ways_on(net, arrivals, taking):
    """A dict: by how many orders of all others, behind those of a set, only sets that take just their COVER come."""
    table = free_table(net, arrivals)
    names = customer_names(net)
    many = {}
    for some in sorted(table, key=len)[::-1]:
        behind = [many[joined(some, (name,))] for name in names if name not in some]
        if taken_by(net, taking, some) != table[some]:
            many[some] = 0
        else:
            many[some] = sum(behind) if behind else 1
    return many


def how_many_ranks(net, arrivals, taking):
    """How many RANKS lead to this TAKING."""
    net, arrivals, taking = frozen((net, arrivals, taking))
    return ways_on(net, arrivals, taking)[()]


def is_corner(net, arrivals, taking):
    """Whether some RANK leads to this TAKING."""
    return how_many_ranks(net, arrivals, taking) > 0


def rank_to(net, arrivals, taking):
    """The least RANK that leads to this TAKING; None if there is none."""
    net, arrivals, taking = frozen((net, arrivals, taking))
    many = ways_on(net, arrivals, taking)
    if many[()] == 0:
        return None
    rank = ()
    for _ in customer_names(net):
        able = [name for name in customer_names(net) if name not in rank]
        rank = rank + (min([name for name in able if many[joined(rank, (name,))] > 0]),)
    return rank


def corners(net, arrivals):
    """The set of all TAKINGS to which RANKS lead.

    Those by beginnings of RANKS that name the same customers are put together.
    """
    net, arrivals = frozen((net, arrivals))
    table = free_table(net, arrivals)
    names = customer_names(net)
    found = {((), (0,) * len(names)): True}
    for _ in names:
        longer = {}
        for some, got in found:
            for at, name in enumerate(names):
                if name not in some:
                    more = joined(some, (name,))
                    longer[(more, got[:at] + (table[more] - table[some],) + got[at + 1:])] = True
        found = longer
    return tuple(sorted([got for _, got in found]))


def lead_alike(net, arrivals, one, other):
    """Whether two RANKS lead to the same TAKING."""
    net, arrivals, one, other = frozen((net, arrivals, one, other))
    check_rank(net, one)
    check_rank(net, other)
    return free_shares(net, arrivals, one) == free_shares(net, arrivals, other)


def idle_places(net, arrivals, rank):
    """The set of the places whose customer can change places with the next one, and the TAKING stays."""
    net, arrivals, rank = frozen((net, arrivals, rank))
    check_rank(net, rank)
    now = free_shares(net, arrivals, rank)
    found = []
    for at in range(len(rank) - 1):
        other = rank[:at] + (rank[at + 1], rank[at]) + rank[at + 2:]
        if free_shares(net, arrivals, other) == now:
            found.append(at)
    return tuple(found)


def added(table, some, name):
    """How much this customer adds to the COVER of a set."""
    return table[joined(some, (name,))] - table[some]


def sure_share(net, arrivals, name):
    """The least that this customer gets by any RANK: behind all others."""
    net, arrivals = frozen((net, arrivals))
    check_customers(net, (name,))
    names = customer_names(net)
    return cover_of(net, arrivals, names) - cover_of(net, arrivals, without(names, (name,)))


def most_share(net, arrivals, name):
    """The most that this customer gets by any RANK: ahead of all others."""
    net, arrivals = frozen((net, arrivals))
    check_customers(net, (name,))
    return cover_of(net, arrivals, (name,))


def worst_ahead(net, arrivals, name, place):
    """The pair of the least share of this customer at this place, and a set of customers ahead of it by which it is."""
    check_customers(net, (name,))
    if not is_hour(place, len(net[3])):
        raise NoNumber(place)
    table = free_table(net, arrivals)
    rows = [some for some in table if len(some) == place and name not in some]
    return min([(added(table, some, name), some) for some in rows])


def sure_share_at(net, arrivals, name, place):
    """The least that this customer gets by any RANK in which it stands at this place."""
    net, arrivals = frozen((net, arrivals))
    return worst_ahead(net, arrivals, name, place)[0]


def worst_rank_at(net, arrivals, name, place):
    """A RANK by which this customer stands at this place and gets the least that it can there."""
    net, arrivals = frozen((net, arrivals))
    ahead = worst_ahead(net, arrivals, name, place)[1] + (name,)
    return ahead + without(customer_names(net), ahead)


def most_pushed(net, arrivals, one, other):
    """The pair of the most that one loses if other comes ahead of it, and a set of customers ahead by which it does.

    Who comes ahead farther off pushes no more than who comes just ahead: so
    it is enough to look at one and other side by side.
    """
    check_customers(net, (one, other))
    table = free_table(net, arrivals)
    rows = [some for some in all_sets(customer_names(net)) if one not in some and other not in some]
    return max([(added(table, some, one) - added(table, joined(some, (other,)), one), some) for some in rows])


def pushed(net, arrivals, one, other):
    """The most that one loses if other comes from behind it ahead of it, FOR ALL RANKS."""
    net, arrivals = frozen((net, arrivals))
    return most_pushed(net, arrivals, one, other)[0]


def pushing_rank(net, arrivals, one, other):
    """A RANK with one just ahead of other in which it loses so much if both change places; None if it loses nothing."""
    net, arrivals = frozen((net, arrivals))
    lost, some = most_pushed(net, arrivals, one, other)
    if lost == 0:
        return None
    ahead = some + (one, other)
    return ahead + without(customer_names(net), ahead)
