"""Days that come one by one: whose share is known in time, FOR ALL ARRIVALS and ALL WISHES."""

from freightrights.checks import check_customers, check_rank, check_yards, customer_row
from freightrights.cuts import is_spot
from freightrights.goods import merged
from freightrights.groups import all_sets, joined, lies_within, without
from freightrights.nets import customer_names, customers_reached, is_arrivals, is_taking
from freightrights.rights import shares_along
from freightrights.shapes import climbs, frozen, is_row


def last_hour(net, customer):
    """The greatest hour of this customer; None without hours."""
    own = customer_row(net, customer)[2]
    return own[-1] if own else None


def known_to(arrivals, hour):
    """The ARRIVALS of hours to this one."""
    return tuple([row for row in frozen(arrivals) if row[1] <= hour])


def share_of(net, arrivals, wishes, rank, customer):
    """The share of this customer by the RANK."""
    return shares_along(net, arrivals, wishes, rank)[customer_names(net).index(customer)]


def share_known(net, arrivals, wishes, rank, customer):
    """The share of this customer with what arrives to its last hour; 0 without hours."""
    last = last_hour(net, customer)
    if last is None:
        return 0
    return share_of(net, known_to(arrivals, last), wishes, rank, customer)


def amount_known(net, arrivals, wishes, rank, customer):
    """The share of this customer with what arrives to its last hour; 0 without hours."""
    net, arrivals, wishes, rank = frozen((net, arrivals, wishes, rank))
    check_rank(net, rank)
    check_customers(net, (customer,))
    return share_known(net, arrivals, wishes, rank, customer)


def late_ones(net, arrivals, wishes, rank):
    """The set of the customers whose share is not what is known in time."""
    net, arrivals, wishes, rank = frozen((net, arrivals, wishes, rank))
    check_rank(net, rank)
    shares = shares_along(net, arrivals, wishes, rank)
    rows = list(zip(customer_names(net), shares))
    return tuple([name for name, share in rows if share_known(net, arrivals, wishes, rank, name) != share])


def checked(net, yards, rank, customer):
    """NET, yards and RANK as tuples; raises NoYard, then OtherCustomers, then NoCustomer."""
    net, yards, rank = frozen((net, yards, rank))
    check_yards(net, yards)
    check_rank(net, rank)
    check_customers(net, (customer,))
    return net, yards, rank


def better_ones(rank, customer):
    """The set of those ahead of this customer in the RANK."""
    return tuple(sorted(rank[:rank.index(customer)]))


def reached_from(net, yards):
    """A dict: to which customers goods can come from each spot of these yards, the spots ascending."""
    spots = [(yard, hour) for yard in yards for hour in range(net[0])]
    return {spot: customers_reached(net, spot[0], spot[1]) for spot in spots}


def least_links(reached, last):
    """A dict: for two customers the least spot of an hour to last from which goods can come to both."""
    links = {}
    for spot in reached:
        if spot[1] <= last:
            for one in reached[spot]:
                for other in without(reached[spot], (one,)):
                    links.setdefault((one, other), spot)
    return links


def least_ends(reached, last):
    """A dict: for a customer the least spot of an hour behind last from which goods can come to it."""
    ends = {}
    for spot in reached:
        if spot[1] > last:
            for name in reached[spot]:
                ends.setdefault(name, spot)
    return ends


def least_tie(reached, last, better, customer):
    """Of the TIES of this customer through better ones with the fewest customers the least; None if there is none."""
    if last is None:
        return None
    links, ends = least_links(reached, last), least_ends(reached, last)
    rows = [(customer,)]
    while rows:
        ways = [(row, name) for row in rows for name in better if name not in row and (row[-1], name) in links]
        rows = [row + (links[(row[-1], name)], name) for row, name in ways]
        full = [row + (ends[row[-1]],) for row in rows if row[-1] in ends]
        if full:
            return min(full)
    return None


def tie_by(net, yards, rank, customer):
    """Of the TIES of this customer with the fewest customers the least; None if there is none."""
    return least_tie(reached_from(net, yards), last_hour(net, customer), better_ones(rank, customer), customer)


def tied(net, yards, rank, customer):
    """The set of the better customers that hang together with this one by spots of hours to its last hour."""
    net, yards, rank = checked(net, yards, rank, customer)
    last = last_hour(net, customer)
    links = {} if last is None else least_links(reached_from(net, yards), last)
    better = better_ones(rank, customer)
    found = [customer]
    at = 0
    while at < len(found):
        found.extend([name for name in better if (found[at], name) in links and name not in found])
        at += 1
    return tuple(sorted(found[1:]))


def tie(net, yards, rank, customer):
    """Of the TIES of this customer with the fewest customers the least; None if there is none."""
    net, yards, rank = checked(net, yards, rank, customer)
    return tie_by(net, yards, rank, customer)


def is_tie(net, yards, rank, customer, thing):
    """Whether thing is a TIE of this customer."""
    net, yards, rank = checked(net, yards, rank, customer)
    if not isinstance(thing, tuple) or len(thing) < 4 or len(thing) // 2 * 2 != len(thing):
        return False
    names, places = thing[0::2], thing[1::2]
    reached = reached_from(net, yards)
    last = last_hour(net, customer)
    if last is None or not all([isinstance(name, str) for name in names]):
        return False
    if names[0] != customer or not climbs(sorted(names)) or not lies_within(names[1:], better_ones(rank, customer)):
        return False
    if not all([is_spot(spot, reached) for spot in places]):
        return False
    for at, spot in enumerate(places):
        early = at < len(places) - 1
        if (spot[1] <= last) != early or not lies_within(names[at:at + 2], reached[spot]):
            return False
    return True


def in_time(net, yards, rank, customer):
    """Whether FOR ALL ARRIVALS at these yards and ALL WISHES the share of this customer is known in time."""
    return tie(net, yards, rank, customer) is None


def all_in_time(net, yards, rank):
    """Whether it is so for all customers."""
    net, yards, rank = frozen((net, yards, rank))
    check_yards(net, yards)
    check_rank(net, rank)
    reached = reached_from(net, yards)
    ties = [least_tie(reached, last_hour(net, name), better_ones(rank, name), name) for name in rank]
    return all([row is None for row in ties])


def always_in_time(net, yards, customer):
    """Whether it is so for this customer by each RANK: as the last one it has the most TIES."""
    net, yards = frozen((net, yards))
    check_yards(net, yards)
    check_customers(net, (customer,))
    others = without(customer_names(net), (customer,))
    return tie_by(net, yards, others + (customer,), customer) is None


def two_arrivals(net, yards, rank, customer):
    """WISHES and two ARRIVALS, the same to the last hour, with which the shares are unlike; None if there are none.

    Each customer of a shortest TIE wishes one, and one unit arrives at each of
    its spots, or at each but the last. None of these units can be in the way
    of another one: else there would be a shorter TIE.
    """
    net, yards, rank = checked(net, yards, rank, customer)
    row = tie_by(net, yards, rank, customer)
    if row is None:
        return None
    wishes = tuple([1 if name in row else 0 for name in customer_names(net)])
    units = tuple([spot + (1,) for spot in row[1::2]])
    return wishes, merged(units[:-1]), merged(units)


def are_two_arrivals(net, yards, rank, customer, thing):
    """Whether thing is such a triple."""
    net, yards, rank = checked(net, yards, rank, customer)
    if not is_row(thing, 3):
        return False
    wishes, one, other = thing
    if not (is_taking(net, wishes) and is_arrivals(net, one) and is_arrivals(net, other)):
        return False
    last = last_hour(net, customer)
    if last is None or not all([row[0] in yards for row in one + other]):
        return False
    if known_to(one, last) != known_to(other, last):
        return False
    return share_of(net, one, wishes, rank, customer) != share_of(net, other, wishes, rank, customer)


def timely(net, yards):
    """A dict: for each set of customers those that are in time if just these are better; raises NoYard."""
    check_yards(net, yards)
    reached = reached_from(net, yards)
    names = customer_names(net)
    ends = {name: last_hour(net, name) for name in names}
    rows = {}
    for some in all_sets(names):
        others = without(names, some)
        rows[some] = [name for name in others if least_tie(reached, ends[name], some, name) is None]
    return rows


def ways_on(rows):
    """A dict: in how many orders all others can stand behind a set so that they are in time."""
    many = {}
    for some in sorted(rows, key=len)[::-1]:
        behind = [many[joined(some, (name,))] for name in rows[some]]
        many[some] = sum(behind) if many else 1
    return many


def how_many_in_time(net, yards):
    """How many RANKS there are by which all customers are in time."""
    net, yards = frozen((net, yards))
    return ways_on(timely(net, yards))[()]


def rank_in_time(net, yards):
    """The least RANK by which all customers are in time."""
    net, yards = frozen((net, yards))
    rows = timely(net, yards)
    many = ways_on(rows)
    rank = ()
    for _ in customer_names(net):
        some = tuple(sorted(rank))
        rank = rank + (min([name for name in rows[some] if many[joined(some, (name,))] > 0]),)
    return rank


def ranks_in_time(net, yards):
    """The ascending list of the RANKS by which all customers are in time."""
    net, yards = frozen((net, yards))
    rows = timely(net, yards)
    ranks = [()]
    for _ in customer_names(net):
        ranks = [rank + (name,) for rank in ranks for name in rows[tuple(sorted(rank))]]
    return sorted(ranks)
