"""COVERS told back: customers known by their places alone, which TABLES go with what was told of them."""

from freightrights.covers import covers
from freightrights.errors import AllKnown, BadAnswer, NothingDone
from freightrights.groups import all_sets, common, joined, lies_within
from freightrights.shapes import frozen, is_from, is_row


def sets_of_places(many):
    """The ascending tuple of all sets of places."""
    return all_sets(tuple(range(many)))


def rules_for(many):
    """What a TABLE keeps to: pairs of places, the numbers at the first ones come to no less than those at the others.

    A set with another one within it has no less; two sets have together no less
    than what they have in common and both together.
    """
    sets = sets_of_places(many)
    rules = []
    for at, one in enumerate(sets):
        for place, other in enumerate(sets):
            if lies_within(one, other):
                rules.append(((place,), (at,)))
            elif at < place:
                rules.append(((at, place), (sets.index(joined(one, other)), sets.index(common(one, other)))))
    return rules


def keeps(numbers, rule):
    """Whether numbers keep to this rule."""
    more, less = rule
    return sum([numbers[at] for at in more]) >= sum([numbers[at] for at in less])


def is_table(many, thing):
    """Whether thing is a TABLE."""
    if not is_row(thing, len(sets_of_places(many))) or not all([is_from(number, 0) for number in thing]):
        return False
    return thing[0] == 0 and all([keeps(thing, rule) for rule in rules_for(many)])


def table_of(net, arrivals):
    """The TABLE of a NET with ARRIVALS."""
    return tuple([number for _, number in covers(net, arrivals)])


def told_apart(many, table):
    """What of a TABLE of three places one alone can take, just two, all three: two dicts and a number.

    Places from many on take nothing. The number for all three is below 0 where
    any two take all that is there for them.
    """
    numbers = {some: number for some, number in zip(sets_of_places(many), table)}
    worth = {some: numbers[common(some, tuple(range(many)))] for some in sets_of_places(3)}
    whole = worth[(0, 1, 2)]
    ends = [(0, (1, 2)), (1, (0, 2)), (2, (0, 1))]
    alone = {one: whole - worth[two] for one, two in ends}
    pairs = {}
    for one, two in ends:
        beside = [worth[joined((one,), (place,))] for place in two]
        pairs[one] = sum(beside) - whole - worth[(one,)]
    every = whole + sum([worth[(one,)] - worth[two] for one, two in ends])
    return alone, pairs, every


def net_for(many, table):
    """A pair (net, arrivals) with this TABLE.

    Each place has a yard of its own. What just two can take comes from yard h
    in the hour that the third one has not, what all can take from yard w: if
    any two take all of it, no line bears more than half of it.
    """
    alone, pairs, every = told_apart(many, frozen(table))
    bears = max(list(pairs.values()))
    goods = [("a", 3, alone[0]), ("b", 3, alone[1]), ("c", 3, alone[2])]
    goods = goods + [("h", hour, pairs[hour] + min(0, every)) for hour in range(3)] + [("w", 3, max(every, -2 * every))]
    ways = [("h", bears), ("w", abs(every))]
    lines = [(start + goal, start, goal, 0, most) for start, most in ways for goal in "abc"]
    customers = [("m", "a", (1, 2, 3)), ("n", "b", (0, 2, 3)), ("o", "c", (0, 1, 3))]
    net = (4, tuple([(yard, 0) for yard in "abchw"]), tuple(lines), tuple(customers[:many]))
    return net, tuple([row for row in goods if row[2] > 0])


def allows(many, table, taking):
    """Whether the TAKING can be by this TABLE."""
    rows = list(zip(sets_of_places(many), table))
    return all([sum([taking[place] for place in some]) <= number for some, number in rows])


def is_asked(many, thing):
    """Whether thing is a TAKING of so many places."""
    return is_row(thing, many) and all([is_from(number, 0) for number in thing])


def is_readings(many, thing):
    """Whether thing is READINGS."""
    if not isinstance(thing, tuple):
        return False
    return all([is_row(part, 2) and is_asked(many, part[0]) and isinstance(part[1], bool) for part in thing])


def goes_with(many, table, readings):
    """Whether the TABLE goes with these READINGS."""
    return all([allows(many, table, taking) == answer for taking, answer in readings])


def all_tables(many, most):
    """The ascending list of all TABLES with numbers up to most: number by number, each rule as soon as it can be."""
    rules = rules_for(many)
    rows = [(0,)]
    for at in range(1, len(sets_of_places(many))):
        now = [rule for rule in rules if max(rule[0] + rule[1]) == at]
        rows = [row + (number,) for row in rows for number in range(most + 1)]
        rows = [row for row in rows if all([keeps(row, rule) for rule in now])]
    return rows


def tables_with(many, most, readings):
    """The ascending list of the TABLES that go with these READINGS."""
    return [table for table in all_tables(many, most) if goes_with(many, table, readings)]


def first_clash(many, most, readings):
    """The place of the first READING with which, and with all ahead of it, no TABLE goes; None if there is none."""
    for at in range(len(readings)):
        if not tables_with(many, most, readings[:at + 1]):
            return at
    return None


def told_of(many, most, readings, taking):
    """Whether the TAKING can be by the TABLES that go with READINGS: True by all, False by none; None otherwise."""
    answers = [allows(many, table, taking) for table in tables_with(many, most, readings)]
    if answers == [] or answers != [answers[0]] * len(answers):
        return None
    return answers[0]


def cover_range(many, most, readings, some):
    """The pair of the least and the greatest number that these TABLES have for a set; None if none goes."""
    place = sets_of_places(many).index(frozen(some))
    numbers = [table[place] for table in tables_with(many, most, readings)]
    return (min(numbers), max(numbers)) if numbers else None


def is_open(many, tables, taking):
    """Whether the TAKING can be by some of these TABLES, and not by others."""
    answers = [allows(many, table, taking) for table in tables]
    return True in answers and False in answers


def first_open(many, most, tables):
    """The least TAKING that can be by some of these TABLES and not by others; None if there is none.

    Two unlike TABLES differ in one that is no greater than their numbers.
    """
    rows = [()]
    for _ in range(many):
        rows = [row + (number,) for row in rows for number in range(most + 1)]
    for taking in rows:
        if is_open(many, tables, taking):
            return taking
    return None


def open_taking(many, most, readings):
    """A TAKING that can be by some of the TABLES that go with READINGS, not by others; None without two of them."""
    return first_open(many, most, tables_with(many, most, readings))


def is_open_taking(many, most, readings, thing):
    """Whether thing is such a TAKING."""
    return is_asked(many, thing) and is_open(many, tables_with(many, most, readings), thing)


def bounds_of(table, some, most):
    """The least and the greatest number of a set, by those of all smaller sets, and of some others as great.

    No set has more than one in which it lies, and that no more than two sets
    that make it up, less what they have in common.
    """
    pairs = [(one, other) for one in table for other in table]
    over = [table[one] + table[other] - table[common(one, other)]
            for one, other in pairs if lies_within(some, joined(one, other))]
    under = [table[one] - table[other] + table[common(some, other)]
             for one, other in pairs if lies_within(one, joined(some, other))]
    return max(under), min([most] + over)


def taking_for(many, table, some, number):
    """A TAKING of so much by a set, which all its parts can take: one behind another as much as those ahead let it."""
    got = [0] * many
    for at, place in enumerate(some):
        whole = number if at == len(some) - 1 else table[some[:at + 1]]
        got[place] = whole - table[some[:at]]
    return tuple(got)


def covers_told(many, most, asker):
    """The TABLE by which asker answers: set by set, small ones first, each number between its bounds by halves."""
    table = {(): 0}
    for some in sorted(sets_of_places(many), key=len)[1:]:
        low, high = bounds_of(table, some, most)
        while low < high:
            middle = (low + high + 1) // 2
            if asker(taking_for(many, table, some, middle)):
                low = middle
            else:
                high = middle - 1
        table[some] = low
    return tuple([table[some] for some in sets_of_places(many)])


class Asking:
    """Asks for a TABLE, one TAKING after another, until it is known."""

    def __init__(self, many, most):
        self._many = many
        self._most = most
        self._asked = ()
        self._able = [all_tables(many, most)]

    @property
    def many(self):
        """How many places there are."""
        return self._many

    @property
    def most(self):
        """The most that a number of the TABLE can be."""
        return self._most

    @property
    def asked(self):
        """The READINGS so far."""
        return self._asked

    @property
    def left(self):
        """How many TABLES go with the READINGS."""
        return len(self._able[-1])

    @property
    def table(self):
        """The TABLE; None as long as there are two."""
        able = self._able[-1]
        return able[0] if len(able) == 1 else None

    def next_taking(self):
        """A TAKING that can be by some of the TABLES still, and not by others; raises AllKnown."""
        found = first_open(self._many, self._most, self._able[-1])
        if found is None:
            raise AllKnown()
        return found

    def tell(self, answer):
        """Puts the answer to next_taking behind the READINGS; raises AllKnown, then BadAnswer."""
        taking = self.next_taking()
        if answer is not True and answer is not False:
            raise BadAnswer(frozen(answer))
        able = [table for table in self._able[-1] if allows(self._many, table, taking) == answer]
        self._asked = self._asked + ((taking, answer),)
        self._able.append(able)

    def undo(self):
        """Takes the last answer back; raises NothingDone."""
        if self._asked == ():
            raise NothingDone()
        self._asked = self._asked[:-1]
        self._able.pop()

    def __eq__(self, other):
        """Whether other is an Asking by the same bounds, with the same READINGS."""
        if not isinstance(other, Asking):
            return False
        return self._many == other._many and self._most == other._most and self._asked == other._asked
