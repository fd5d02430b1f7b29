"""Least works, idle rooms and lines: how much a SITE is needed, and what can go."""

from freightrights.checks import line_row, yard_row
from freightrights.covers import free_table, taken_by
from freightrights.cuts import cut_value, is_cut, least_far, short_cut, ways
from freightrights.freight import free_freight
from freightrights.groups import all_sets
from freightrights.nets import customer_names, line_names, with_most, with_room, yard_names
from freightrights.shapes import frozen, is_row, is_set_of


def check_sites(net, sites):
    """Raises NoLine or NoYard for the first SITE that is none."""
    for site in sites:
        site_most(net, site)


def all_sites(net):
    """The set of all SITES."""
    return tuple([("line", name) for name in line_names(net)] + [("yard", name) for name in yard_names(net)])


def site_most(net, site):
    """The most of this SITE."""
    if site[0] == "line":
        return line_row(net, site[1])[4]
    return yard_row(net, site[1])[1]


def with_site(net, site, number):
    """The NET in which this is the most of this SITE."""
    if site[0] == "line":
        return with_most(net, site[1], number)
    return with_room(net, site[1], number)


def uses_of(net, site, cut):
    """How often this CUT uses the SITE."""
    net, cut = frozen((net, cut))
    check_sites(net, (site,))
    word = "line" if site[0] == "line" else "room"
    pieces = [row for row in ways(net) if row[0][:2] == (word, site[1])]
    return len([start for _, _, start, goal in pieces if start not in cut and goal in cut])


def least_most(net, arrivals, site, far, number):
    """The least most of this SITE with which the value of these far spots is number, or just above; they use it."""
    bare = with_site(net, site, 0)
    return -((cut_value(bare, arrivals, far) - number) // uses_of(net, site, far))


def climb(net, arrivals, wishes, site):
    """The pair of the least most with which WISHES can be, and None; or of None and what is narrow by any most.

    Each CUT that is too narrow tells a most that is needed at the least. The
    next one uses the SITE less often: so there are not many more than hours.
    """
    most = 0
    narrow = short_cut(with_site(net, site, most), arrivals, wishes)
    while narrow is not None:
        some, far = narrow
        if uses_of(net, site, far) == 0:
            return None, narrow
        most = least_most(net, arrivals, site, far, taken_by(net, wishes, some))
        narrow = short_cut(with_site(net, site, most), arrivals, wishes)
    return most, None


def need_alone(net, arrivals, wishes, site):
    """The least most of this SITE with which these WISHES can be; None if there is none."""
    net, arrivals, wishes, site = frozen((net, arrivals, wishes, site))
    return climb(net, arrivals, wishes, site)[0]


def narrow_without(net, arrivals, wishes, site):
    """A set and a CUT for it without this SITE that is too narrow for what they wish; None if need_alone has one."""
    net, arrivals, wishes, site = frozen((net, arrivals, wishes, site))
    return climb(net, arrivals, wishes, site)[1]


def is_narrow_without(net, arrivals, wishes, site, thing):
    """Whether thing is such a pair of a set and a CUT."""
    net, arrivals, wishes, site = frozen((net, arrivals, wishes, site))
    check_sites(net, (site,))
    if not is_row(thing, 2) or not is_set_of(thing[0], customer_names(net)):
        return False
    some, far = thing
    if not is_cut(net, some, far) or uses_of(net, site, far) > 0:
        return False
    return cut_value(net, arrivals, far) < taken_by(net, wishes, some)


def helpers_alone(net, arrivals, wishes):
    """The pairs (site, number) of all SITES for which need_alone tells a number."""
    net, arrivals, wishes = frozen((net, arrivals, wishes))
    rows = [(site, climb(net, arrivals, wishes, site)[0]) for site in all_sites(net)]
    return tuple([row for row in rows if row[1] is not None])


def far_for(net, arrivals, site, most, some):
    """A narrowest CUT for this set while the SITE has this most, and its value."""
    changed = with_site(net, site, most)
    far = least_far(free_freight(changed, arrivals, some))
    return far, cut_value(changed, arrivals, far)


def kept_from(net, arrivals, site, most, some, number):
    """The least most of this SITE, from most on, with which the COVER of this set is this number, its own."""
    far, value = far_for(net, arrivals, site, most, some)
    while value < number:
        most = least_most(net, arrivals, site, far, number)
        far, value = far_for(net, arrivals, site, most, some)
    return most


def least_kept(net, arrivals, site):
    """The least most of this SITE with which all COVERS are as they are."""
    net, arrivals, site = frozen((net, arrivals, site))
    check_sites(net, (site,))
    table = free_table(net, arrivals)
    most = 0
    for some in table:
        most = kept_from(net, arrivals, site, most, some, table[some])
    return most


def idle_by(net, arrivals, site):
    """By how much least_kept is less than the most of this SITE."""
    return site_most(net, site) - least_kept(net, arrivals, site)


def idle_sites(net, arrivals):
    """The set of the SITES without which, one alone, all COVERS are as they are."""
    net, arrivals = frozen((net, arrivals))
    table = free_table(net, arrivals)
    return tuple([site for site in all_sites(net) if free_table(with_site(net, site, 0), arrivals) == table])


def table_without(net, arrivals, sites):
    """A dict of the COVERS of all sets when the most of each of these SITES is 0."""
    for site in sites:
        net = with_site(net, site, 0)
    return free_table(net, arrivals)


def can_go(net, arrivals, sites):
    """Whether all COVERS are as they are without these SITES."""
    net, arrivals, sites = frozen((net, arrivals, sites))
    check_sites(net, sites)
    return table_without(net, arrivals, sites) == free_table(net, arrivals)


def who_feels(net, arrivals, sites):
    """Of the sets whose COVER is less without these SITES that with the fewest customers, the least; () if none."""
    net, arrivals, sites = frozen((net, arrivals, sites))
    check_sites(net, sites)
    rest, table = table_without(net, arrivals, sites), free_table(net, arrivals)
    felt = [(len(some), some) for some in table if rest[some] < table[some]]
    return min(felt)[1] if felt else ()


def gone_by_turns(net, arrivals, sites):
    """The SITES that go if one behind another each one goes that can go together with those gone so far."""
    net, arrivals, sites = frozen((net, arrivals, sites))
    check_sites(net, sites)
    table = free_table(net, arrivals)
    gone = ()
    for site in sites:
        if table_without(net, arrivals, gone + (site,)) == table:
            gone = gone + (site,)
    return gone


def most_gone(net, arrivals, sites):
    """Of the sets of some of these SITES that can go that with the most SITES, of several the least."""
    net, arrivals, sites = frozen((net, arrivals, sites))
    check_sites(net, sites)
    table = free_table(net, arrivals)
    able = [some for some in all_sets(sites) if table_without(net, arrivals, some) == table]
    return min([(-len(some), some) for some in able])[1]
