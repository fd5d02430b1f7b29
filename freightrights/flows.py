"""A greatest flow between two nodes, and what could still go on."""


class Flow:
    """What is carried on arcs between nodes, which are numbered from 0.

    The arcs k and k ^ 1 lie opposite to each other: what is carried on one of
    them could go back on the other one.
    """

    def __init__(self, many):
        self.leaving = [[] for _ in range(many)]
        self.goals = []
        self.spare = []

    def lay(self, start, goal, most):
        """A new arc on which so much can go at the most; its number."""
        arc = len(self.goals)
        self.goals.extend([goal, start])
        self.spare.extend([most, 0])
        self.leaving[start].append(arc)
        self.leaving[goal].append(arc + 1)
        return arc

    def carried(self, arc):
        """How much is carried on this arc."""
        return self.spare[arc ^ 1]

    def widen(self, arc, more):
        """Lets so much more go on this arc."""
        self.spare[arc] += more

    def saved(self):
        """What is carried now, as restore takes it."""
        return list(self.spare)

    def restore(self, saved):
        """Carries again what was carried then."""
        self.spare = list(saved)

    def path(self, start, goal):
        """The arcs of a shortest way on which more can go, from its end to its beginning; [] if there is none."""
        by_arc = [-1] * len(self.leaving)
        found = [start]
        at = 0
        while at < len(found) and by_arc[goal] < 0:
            here = found[at]
            for arc in self.leaving[here]:
                node = self.goals[arc]
                if self.spare[arc] > 0 and by_arc[node] < 0 and node != start:
                    by_arc[node] = arc
                    found.append(node)
            at += 1
        row = []
        node = goal
        while by_arc[node] >= 0:
            row.append(by_arc[node])
            node = self.goals[by_arc[node] ^ 1]
        return row

    def push(self, start, goal):
        """Carries as much more as can go; returns how much more.

        Shortest ways are taken first, so that their number does not grow with
        the amounts.
        """
        total = 0
        row = self.path(start, goal)
        while row:
            amount = min([self.spare[arc] for arc in row])
            for arc in row:
                self.spare[arc] -= amount
                self.spare[arc ^ 1] += amount
            total += amount
            row = self.path(start, goal)
        return total

    def nodes_after(self, start):
        """For each node whether more can go to it from start."""
        marks = [False] * len(self.leaving)
        marks[start] = True
        found = [start]
        while found:
            here = found.pop()
            for arc in self.leaving[here]:
                node = self.goals[arc]
                if self.spare[arc] > 0 and not marks[node]:
                    marks[node] = True
                    found.append(node)
        return marks

    def nodes_before(self, goal):
        """For each node whether more can go from it to goal."""
        marks = [False] * len(self.leaving)
        marks[goal] = True
        found = [goal]
        while found:
            here = found.pop()
            for arc in self.leaving[here]:
                node = self.goals[arc]
                if self.spare[arc ^ 1] > 0 and not marks[node]:
                    marks[node] = True
                    found.append(node)
        return marks
