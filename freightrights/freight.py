"""Freight as a flow: from what arrives, over spots, to what customers take."""

from freightrights.flows import Flow
from freightrights.nets import spots

SOURCE = 0
SINK = 1


def line_hours(net):
    """The most of each line, by line and hour in which it can be left on."""
    return {(row[0], hour): row[4] for row in net[2] for hour in range(net[0] - row[3])}


class Freight:
    """A flow on the spots of a NET.

    At first goods arrive and can lie over; lines and customers are laid then.
    """

    def __init__(self, net, arrivals):
        self.hours = net[0]
        self.lines = net[2]
        self.customers = net[3]
        self.places = {spot: at + 2 for at, spot in enumerate(spots(net))}
        self.flow = Flow(2 + len(self.places) + len(net[3]))
        self.plenty = sum([row[2] for row in arrivals]) + 1
        self.by_line = {}
        self.by_customer = {}
        self.exits = []
        for yard, hour, amount in arrivals:
            self.flow.lay(SOURCE, self.places[(yard, hour)], amount)
        for yard, room in net[1]:
            for hour in range(net[0] - 1):
                self.flow.lay(self.places[(yard, hour)], self.places[(yard, hour + 1)], room)

    def lay_lines(self, mosts):
        """Lays the lines; mosts tells by line and hour how much can leave."""
        for line, start, goal, late, _ in self.lines:
            for hour in range(self.hours - late):
                if (line, hour) in mosts:
                    ends = self.places[(start, hour)], self.places[(goal, hour + late)]
                    self.by_line[(line, hour)] = self.flow.lay(ends[0], ends[1], mosts[(line, hour)])

    def node_of(self, at):
        """The node of the customer at this place in the NET."""
        return 2 + len(self.places) + at

    def lay_customers(self, limits):
        """Lays the customers, each with the most that it takes in all."""
        for at, (customer, yard, own) in enumerate(self.customers):
            for hour in own:
                start = self.places[(yard, hour)]
                self.by_customer[(customer, hour)] = self.flow.lay(start, self.node_of(at), self.plenty)
            self.exits.append(self.flow.lay(self.node_of(at), SINK, limits[at]))

    def push(self):
        """Carries as much more to the customers as can be; returns how much more."""
        return self.flow.push(SOURCE, SINK)

    def allow(self, at, more):
        """Lets the customer at this place take so much more than its limit so far."""
        self.flow.widen(self.exits[at], more)

    def carried_on(self, arcs):
        """The ascending tuple of triples of what is carried on arcs by name and hour, where it is 1 or more."""
        rows = [key + (self.flow.carried(arcs[key]),) for key in arcs]
        return tuple(sorted([row for row in rows if row[2] > 0]))

    def plan(self):
        """The PLAN by which this is carried."""
        return self.carried_on(self.by_line), self.carried_on(self.by_customer)

    def spots_marked(self, marks, mark):
        """The set of the spots whose nodes are so marked."""
        return tuple([spot for spot in self.places if marks[self.places[spot]] == mark])

    def customers_marked(self, marks):
        """The set of the customers whose nodes are marked."""
        return tuple([row[0] for at, row in enumerate(self.customers) if marks[self.node_of(at)]])


def open_freight(net, arrivals, limits):
    """A Freight of all lines and customers, each customer with its limit; nothing is carried so far."""
    freight = Freight(net, arrivals)
    freight.lay_lines(line_hours(net))
    freight.lay_customers(limits)
    return freight


def limits_of(net, some, most):
    """The limits by which these customers take at most so much each, all others nothing."""
    return tuple([most if row[0] in some else 0 for row in net[3]])


def free_freight(net, arrivals, some):
    """A greatest Freight for these customers, all others taking nothing.

    No limit is ever reached: an exit has room for more than all that arrives.
    """
    plenty = sum([row[2] for row in arrivals]) + 1
    freight = open_freight(net, arrivals, limits_of(net, some, plenty))
    freight.push()
    return freight
