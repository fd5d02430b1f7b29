"""Wishes: what a customer gets if it tells another one, what one wish more does, who takes from whom."""

from freightrights.checks import check_customers
from freightrights.covers import cover_table, lots_of, plenty_of, takings_within
from freightrights.groups import without
from freightrights.nets import customer_names
from freightrights.rows import asked_of, served_of, table_for
from freightrights.shapes import frozen, is_hour, is_row
from freightrights.spreads import class_spread


def at_most(wishes, taking):
    """The lesser one of wish and number for each customer."""
    return tuple([min(wish, number) for wish, number in zip(wishes, taking)])


def use_of(wishes, taking):
    """The tuple of how much is of use to each customer."""
    return at_most(wishes, taking)


def with_wish(net, wishes, name, number):
    """The WISHES in which this customer wishes this number."""
    return tuple([number if own == name else wish for own, wish in zip(customer_names(net), wishes)])


def told_share(net, arrivals, wishes, classes, name, number):
    """What this customer gets if it tells this number; raises NoCustomer."""
    check_customers(net, (name,))
    got = class_spread(net, arrivals, with_wish(net, wishes, name, number), classes)
    return got[customer_names(net).index(name)]


def share_if(net, arrivals, wishes, classes, name, number):
    """What this customer gets if it tells this number, all others their wishes."""
    net, arrivals, wishes, classes = frozen((net, arrivals, wishes, classes))
    return told_share(net, arrivals, wishes, classes, name, number)


def ceiling(net, arrivals, wishes, classes, name):
    """The most that this customer gets, whatever it tells: what it gets if it tells all that arrives."""
    net, arrivals, wishes, classes = frozen((net, arrivals, wishes, classes))
    return told_share(net, arrivals, wishes, classes, name, plenty_of(arrivals))


def uses_if(net, arrivals, wishes, told, classes):
    """The tuple of how much is of use, by wishes, to each customer if all tell told."""
    net, arrivals, wishes, told, classes = frozen((net, arrivals, wishes, told, classes))
    return at_most(wishes, class_spread(net, arrivals, told, classes))


def changes_of_use(net, arrivals, wishes, told, classes):
    """The pairs of a customer and how much more is of use to it if all tell told than if all tell wishes."""
    now = uses_if(net, arrivals, wishes, wishes, classes)
    then = uses_if(net, arrivals, wishes, told, classes)
    return [(name, new - old) for name, old, new in zip(customer_names(net), now, then)]


def better_by(net, arrivals, wishes, told, classes):
    """The set of the customers to whom more is of use if all tell told."""
    return tuple([name for name, more in changes_of_use(net, arrivals, wishes, told, classes) if more > 0])


def worse_by(net, arrivals, wishes, told, classes):
    """The set of the customers to whom less is of use if all tell told."""
    return tuple([name for name, more in changes_of_use(net, arrivals, wishes, told, classes) if more < 0])


def wish_more(net, arrivals, wishes, classes, name):
    """Whether this customer gets one more if it wishes one more, and who then gets one less, None if nobody does."""
    net, arrivals, wishes, classes = frozen((net, arrivals, wishes, classes))
    check_customers(net, (name,))
    names = customer_names(net)
    now = class_spread(net, arrivals, wishes, classes)
    then = class_spread(net, arrivals, with_wish(net, wishes, name, wishes[names.index(name)] + 1), classes)
    losing = [own for own, old, new in zip(names, now, then) if new < old]
    return then[names.index(name)] > now[names.index(name)], losing[0] if losing else None


def harm_by(net, arrivals, wishes, classes, name):
    """The tuple of how much each customer gets less than if this one wished 0; 0 for itself."""
    net, arrivals, wishes, classes = frozen((net, arrivals, wishes, classes))
    check_customers(net, (name,))
    now = class_spread(net, arrivals, wishes, classes)
    then = class_spread(net, arrivals, with_wish(net, wishes, name, 0), classes)
    return tuple([0 if own == name else new - old for own, old, new in zip(customer_names(net), now, then)])


def least_by_rows(net, table, name):
    """The least that this customer gets by a ROW of all wishes: as the last one; by a table within WISHES."""
    names = customer_names(net)
    return table[names] - table[without(names, (name,))]


def least_got(net, arrivals, wishes, name):
    """The least that this customer gets FOR ALL ROWS in which each one asks just as often as it wishes."""
    net, arrivals, wishes = frozen((net, arrivals, wishes))
    check_customers(net, (name,))
    return least_by_rows(net, cover_table(net, arrivals, wishes), name)


def most_got(net, arrivals, wishes, name):
    """The most that this customer gets FOR ALL ROWS in which each one asks just as often as it wishes: as the first."""
    net, arrivals, wishes = frozen((net, arrivals, wishes))
    check_customers(net, (name,))
    return cover_table(net, arrivals, wishes)[(name,)]


def always_served(net, arrivals, wishes):
    """The set of those that get all they wish by each of these ROWS."""
    net, arrivals, wishes = frozen((net, arrivals, wishes))
    table = cover_table(net, arrivals, wishes)
    pairs = list(zip(customer_names(net), wishes))
    return tuple([name for name, wish in pairs if least_by_rows(net, table, name) == wish])


def rival_parts(net, arrivals, wishes):
    """The set of the least parts such that all together can take, within wishes, what the parts can by themselves."""
    net, arrivals, wishes = frozen((net, arrivals, wishes))
    return lots_of(cover_table(net, arrivals, wishes))


def can_take_from(net, arrivals, wishes, name, other):
    """Whether by some ROW of wishes a request of name takes from other: whether both are in one part."""
    check_customers(net, (name, other))
    return name != other and any([name in part and other in part for part in rival_parts(net, arrivals, wishes)])


def rivalry(net, arrivals, wishes, name, other):
    """A pair (row, place) of a ROW of wishes and a request of name in it that takes from other; None.

    If there is one at all, there are units given so far behind which one more
    can be of name or of other, and not both.
    """
    net, arrivals, wishes = frozen((net, arrivals, wishes))
    if not can_take_from(net, arrivals, wishes, name, other):
        return None
    names = customer_names(net)
    table = cover_table(net, arrivals, wishes)
    rows = {taking: True for taking in takings_within(names, table, wishes)}
    for taking in rows:
        one, two = one_more_for(names, taking, name), one_more_for(names, taking, other)
        if one in rows and two in rows and one_more_for(names, one, other) not in rows:
            ahead = [own for own, many in zip(names, taking) for _ in range(many)]
            return tuple(ahead + [name, other]), len(ahead)
    return None


def one_more_for(names, taking, name):
    """The TAKING with one unit more for this customer."""
    return tuple([number + (1 if own == name else 0) for own, number in zip(names, taking)])


def is_row_of(names, wishes, thing):
    """Whether thing is a ROW in which no customer asks more often than it wishes."""
    if not isinstance(thing, tuple) or not all([name in names for name in thing]):
        return False
    return all([many <= wish for many, wish in zip(asked_of(names, thing), wishes)])


def is_rivalry(net, arrivals, wishes, name, other, thing):
    """Whether thing is a pair (row, place) of such a ROW and the place of such a request."""
    net, arrivals, wishes = frozen((net, arrivals, wishes))
    check_customers(net, (name, other))
    names = customer_names(net)
    if name == other or not is_row(thing, 2) or not is_row_of(names, wishes, thing[0]):
        return False
    row, place = thing
    if not is_hour(place, len(row)) or row[place] != name:
        return False
    table = table_for(net, arrivals, row)
    now = served_of(names, table, row)
    then = served_of(names, table, row[:place] + row[place + 1:])
    return then[names.index(other)] == now[names.index(other)] + 1
