"""A board of NETS with ARRIVALS, each with a NAME, and deeds on it that can be undone."""

from freightrights.covers import can_be, free_table
from freightrights.errors import Known, NoNet, NothingDone
from freightrights.groups import lies_within
from freightrights.nets import customer_names
from freightrights.shapes import frozen
from freightrights.watches import edited


def others_than(nets, name):
    """A new dict of these but for this NAME."""
    return {other: nets[other] for other in nets if other != name}


def has_no_less(one, other):
    """Whether both tables are of the same customers, and each set has no less in the one than in the other."""
    return list(one) == list(other) and all([one[some] >= other[some] for some in one])


class Board:
    """NETS with ARRIVALS by NAME. Each deed puts a new dict in the place of the last one, which is kept."""

    def __init__(self):
        self._nets = {}
        self._past = []

    @property
    def names(self):
        """The set of the NAMEs."""
        return tuple(sorted(self._nets))

    @property
    def deeds(self):
        """How many deeds can be undone now."""
        return len(self._past)

    def __len__(self):
        """How many NETS there are."""
        return len(self._nets)

    def __contains__(self, name):
        """Whether there is a NET with this NAME."""
        return name in self._nets

    def __getitem__(self, name):
        """The pair (net, arrivals) with this NAME; raises NoNet."""
        if name not in self._nets:
            raise NoNet(name)
        return self._nets[name]

    # Without this a loop would ask for board[0], board[1] and so on.
    def __iter__(self):
        raise TypeError("a Board is not gone through")

    def __eq__(self, other):
        """Whether other is a Board with the same NETS and ARRIVALS by NAME."""
        return isinstance(other, Board) and self._nets == other._nets

    def _change(self, nets):
        """Puts these in the place of what there is: one deed."""
        self._past.append(self._nets)
        self._nets = nets

    def put(self, name, net, arrivals):
        """Puts a NET with ARRIVALS on the Board; raises Known."""
        if name in self._nets:
            raise Known(name)
        nets = others_than(self._nets, name)
        nets[name] = frozen((net, arrivals))
        self._change(nets)

    def drop(self, name):
        """Takes a NET off the Board; raises NoNet."""
        if name not in self._nets:
            raise NoNet(name)
        self._change(others_than(self._nets, name))

    def rename(self, name, new):
        """Gives a NET another NAME; raises NoNet, then Known."""
        pair = self[name]
        if new in self._nets:
            raise Known(new)
        nets = others_than(self._nets, name)
        nets[new] = pair
        self._change(nets)

    def edit(self, name, edit):
        """Does an EDIT on a NET; raises NoNet, then as edited."""
        net, arrivals = self[name]
        nets = others_than(self._nets, name)
        nets[name] = edited(net, arrivals, edit)
        self._change(nets)

    def undo(self):
        """Undoes the last deed that is not undone yet; raises NothingDone."""
        if self._past == []:
            raise NothingDone()
        self._nets = self._past.pop()

    def twin(self):
        """An equal Board without deeds to undo, which shares nothing with this one."""
        other = Board()
        other._nets = others_than(self._nets, None)
        return other

    def with_customer(self, name):
        """The set of the NAMEs of the NETS that have this customer."""
        return tuple([one for one in self.names if name in customer_names(self._nets[one][0])])

    def where_can(self, pairs):
        """The set of the NAMEs of the NETS that have these customers, who can have so much, all others nothing."""
        wanted = {name: number for name, number in pairs}
        found = []
        for one in self.names:
            net, arrivals = self._nets[one]
            names = customer_names(net)
            taking = [wanted.get(name, 0) for name in names]
            if lies_within(wanted, names) and can_be(net, arrivals, taking):
                found.append(one)
        return tuple(found)

    def _tables(self):
        """A dict by NAME, ascending: the COVERS of all sets of customers."""
        return {name: free_table(self._nets[name][0], self._nets[name][1]) for name in self.names}

    def alike(self):
        """The set of the sets of the NAMEs of NETS with the same customers and the same COVERS."""
        tables = self._tables()
        rows = [tuple([other for other in tables if tables[other] == tables[one]]) for one in tables]
        return tuple(sorted(set(rows)))

    def at_least(self, name):
        """The set of the NAMEs of the other NETS with the same customers in which no COVER is less; raises NoNet."""
        if name not in self._nets:
            raise NoNet(name)
        tables = self._tables()
        return tuple([one for one in tables if one != name and has_no_less(tables[one], tables[name])])
