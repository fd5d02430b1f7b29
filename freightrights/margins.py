"""Margins: how much each set of customers can take still, while its customers take."""

from freightrights.groups import common


class Margins:
    """How much each set of customers can take still; at first what a table tells for each set."""

    def __init__(self, table):
        self.rest = {row: table[row] for row in table}
        self.sets_with = {}
        for row in table:
            for name in row:
                self.sets_with.setdefault(name, []).append(row)

    def room(self, name):
        """How much more this customer can take."""
        return min([self.rest[row] for row in self.sets_with[name]])

    def take(self, name, amount):
        """Lets this customer take so much more; less than so far if the amount is below 0."""
        for row in self.sets_with[name]:
            self.rest[row] -= amount

    def rise(self, names):
        """How much more each of these, one or more, can take if all of them take the same more."""
        shared = [(self.rest[row], len(common(row, names))) for row in self.rest]
        return min([rest // many for rest, many in shared if many > 0])
