"""Watches: a NET that is changed EDIT by EDIT, with everything taken back."""

from freightrights.checks import check_spot, customer_row, line_row, yard_row
from freightrights.covers import can_be, cover
from freightrights.errors import NoNumber, NothingDone
from freightrights.goods import merged
from freightrights.nets import arrives, place_of, with_most, with_room, with_rows
from freightrights.rights import by_rank
from freightrights.shapes import frozen, is_from, is_hour, is_set_of_numbers
from freightrights.works import gainers, losers


def is_edit(thing):
    """Whether thing has the form of an EDIT."""
    if not isinstance(thing, tuple) or len(thing) not in (3, 4) or not isinstance(thing[1], str):
        return False
    word, last = thing[0], thing[-1]
    if len(thing) == 4:
        return word == "arrive" and is_from(thing[2], 0) and is_from(last, 0)
    if word == "hours":
        return is_set_of_numbers(last)
    if word == "stand":
        return isinstance(last, str)
    return word in ("most", "room") and is_from(last, 0)


def check_edit(net, edit):
    """Raises NoLine, NoYard, NoCustomer for the first name in it that is none, then NoNumber for the first hour."""
    word, name = edit[:2]
    if word == "most":
        line_row(net, name)
    elif word == "room":
        yard_row(net, name)
    elif word == "arrive":
        check_spot(net, name, edit[2])
    elif word == "stand":
        customer_row(net, name)
        yard_row(net, edit[2])
    else:
        customer_row(net, name)
        for hour in edit[2]:
            if not is_hour(hour, net[0]):
                raise NoNumber(hour)


def with_place(net, customer, yard, own):
    """The NET in which this customer stands at this yard and has these hours."""
    others = [row for row in net[3] if row[0] != customer]
    return with_rows(net, 3, others + [(customer, yard, own)])


def with_arrival(arrivals, yard, hour, amount):
    """The ARRIVALS with just so much at this spot."""
    others = tuple([row for row in arrivals if row[:2] != (yard, hour)])
    return merged(others + ((yard, hour, amount),)) if amount > 0 else others


def done(net, arrivals, edit):
    """The pair (net, arrivals) behind an EDIT of them."""
    word, name, last = edit[0], edit[1], edit[-1]
    if word == "most":
        return with_most(net, name, last), arrivals
    if word == "room":
        return with_room(net, name, last), arrivals
    if word == "arrive":
        return net, with_arrival(arrivals, name, edit[2], last)
    yard, own = place_of(net, name)
    if word == "hours":
        return with_place(net, name, yard, last), arrivals
    return with_place(net, name, last, own), arrivals


def edited(net, arrivals, edit):
    """The pair (net, arrivals) behind this EDIT."""
    net, arrivals, edit = frozen((net, arrivals, edit))
    check_edit(net, edit)
    return done(net, arrivals, edit)


def undone_by(net, arrivals, edit):
    """The EDIT that, done behind this one, brings back what is."""
    net, arrivals, edit = frozen((net, arrivals, edit))
    check_edit(net, edit)
    word, name = edit[:2]
    if word == "most":
        return word, name, line_row(net, name)[4]
    if word == "room":
        return word, name, yard_row(net, name)[1]
    if word == "arrive":
        return word, name, edit[2], arrives(arrivals, name, edit[2])
    yard, own = place_of(net, name)
    return (word, name, own) if word == "hours" else (word, name, yard)


def do_commute(net, arrivals, one, other):
    """Whether both EDITS lead to the same, whichever is done first."""
    net, arrivals, one, other = frozen((net, arrivals, one, other))
    check_edit(net, one)
    check_edit(net, other)
    behind_one, behind_other = done(net, arrivals, one), done(net, arrivals, other)
    return done(behind_one[0], behind_one[1], other) == done(behind_other[0], behind_other[1], one)


class Watch:
    """A NET with ARRIVALS on which EDITS are done and taken back.

    It keeps all states: the beginning, and what there was behind each EDIT.
    """

    def __init__(self, net, arrivals):
        self._states = [frozen((net, arrivals))]
        self._told = ()

    @property
    def net(self):
        """The NET as it is now."""
        return self._states[-1][0]

    @property
    def arrivals(self):
        """The ARRIVALS as they are now."""
        return self._states[-1][1]

    @property
    def told(self):
        """The tuple of the EDITS that are done and not taken back."""
        return self._told

    def __len__(self):
        """How many EDITS are done and not taken back."""
        return len(self._told)

    def __eq__(self, other):
        """Whether other is a Watch with the same NET, ARRIVALS and EDITS."""
        if not isinstance(other, Watch):
            return False
        return self._states[-1] == other._states[-1] and self._told == other._told

    def do(self, edit):
        """Does this EDIT."""
        now = edited(self._states[-1][0], self._states[-1][1], edit)
        self._states.append(now)
        self._told = self._told + (frozen(edit),)

    def back(self):
        """Takes the last EDIT back; raises NothingDone."""
        if self._told == ():
            raise NothingDone()
        self._told = self._told[:-1]
        self._states.pop()

    def back_alone(self, place):
        """Takes the EDIT at this place back, as if the others had been done from the beginning; raises NoNumber."""
        if not is_hour(place, len(self._told)):
            raise NoNumber(place)
        later = self._told[place + 1:]
        self._told = self._told[:place]
        self._states = self._states[:place + 1]
        for edit in later:
            self.do(edit)

    def twin(self):
        """An equal Watch with the same EDITS to take back, which shares nothing with this one."""
        other = Watch(self._states[0][0], self._states[0][1])
        for edit in self._told:
            other.do(edit)
        return other

    def cover(self, some):
        """The COVER of this set now."""
        return cover(self._states[-1][0], self._states[-1][1], some)

    def can_be(self, taking):
        """Whether the TAKING can be now."""
        return can_be(self._states[-1][0], self._states[-1][1], taking)

    def by_rank(self, rank):
        """The TAKING by this RANK now."""
        return by_rank(self._states[-1][0], self._states[-1][1], rank)

    def grown(self):
        """The pair of the sets of those that get less, and more, by some RANK, now than at the beginning."""
        here, there = self._states[0], self._states[-1]
        lose = losers(here[0], here[1], there[0], there[1])
        return lose, gainers(here[0], here[1], there[0], there[1])

    def first_not(self, taking):
        """The number of the first state in which this TAKING cannot be; None if it can in each."""
        for at, (net, arrivals) in enumerate(self._states):
            if not can_be(net, arrivals, taking):
                return at
        return None

    def least_cover(self, some):
        """The least COVER of this set in any state."""
        return min([cover(net, arrivals, some) for net, arrivals in self._states])
