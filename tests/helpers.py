"""What several tests need: NETS by chance, and plain looks of their own at PLANS, CUTS and COVERS."""

import random
from itertools import combinations

NAMES = "abcdefgh"


def some_hours(chance, hours):
    return tuple(hour for hour in range(hours) if chance.random() < 0.6)


def amount_of(chance, great):
    if great and chance.random() < 0.5:
        return chance.choice([10 ** 30, 10 ** 30 - 1, 10 ** 29 + 7, 3 * 10 ** 28])
    return chance.randint(0, 4)


def chance_line(chance, name, yards, great):
    start, goal = chance.sample(range(len(yards)), 2)
    late = chance.choice([0, 0, 1, 1, 2, 3, 5])
    if late == 0 and start > goal:
        start, goal = goal, start
    return (name, yards[start], yards[goal], late, amount_of(chance, great))


def chance_net(seed, hours=3, yards=3, lines=4, customers=3, great=False):
    """A NET of at most so much, and ARRIVALS of it; by the same seed always the same ones."""
    chance = random.Random(seed)
    hours = chance.randint(1, hours)
    names = sorted(chance.sample("pqrstuv", chance.randint(1, yards)))
    mixed = chance.sample(names, len(names))
    rows = []
    for k in range(chance.randint(0, lines) if len(names) > 1 else 0):
        rows.append(chance_line(chance, NAMES[k], mixed, great))
    people = []
    for k in range(chance.randint(0, customers)):
        people.append((NAMES[k] + "x", chance.choice(names), some_hours(chance, hours)))
    rooms = tuple((name, amount_of(chance, great)) for name in names)
    net = (hours, rooms, tuple(rows), tuple(people))
    arrivals = []
    for name in names:
        for hour in range(hours):
            amount = amount_of(chance, great)
            if amount > 0 and chance.random() < 0.5:
                arrivals.append((name, hour, amount))
    return net, tuple(arrivals)


def all_spots(net):
    return [(yard, hour) for yard, _ in net[1] for hour in range(net[0])]


def people(net):
    return tuple(row[0] for row in net[3])


def parts(names):
    """All sets of these, as ascending tuples, ascending."""
    return sorted(row for many in range(len(names) + 1) for row in combinations(names, many))


def own_spots(net, some):
    return {(yard, hour) for name, yard, own in net[3] if name in some for hour in own}


def value(net, arrivals, far):
    """The value of a CUT by a look at each arrival, each line and hour, each yard and hour."""
    total = sum(amount for yard, hour, amount in arrivals if (yard, hour) in far)
    for _, start, goal, late, most in net[2]:
        for hour in range(net[0]):
            if hour + late < net[0] and (start, hour) not in far and (goal, hour + late) in far:
                total += most
    for yard, room in net[1]:
        for hour in range(1, net[0]):
            if (yard, hour - 1) not in far and (yard, hour) in far:
                total += room
    return total


def cuts_with_values(net, arrivals, some):
    """All CUTS for these, each as an ascending tuple with its value."""
    must = own_spots(net, some)
    free = [spot for spot in all_spots(net) if spot not in must]
    rows = []
    for many in range(len(free) + 1):
        for more in combinations(free, many):
            far = must.union(more)
            rows.append((tuple(sorted(far)), value(net, arrivals, far)))
    return rows


def least_value(net, arrivals, some):
    return min(number for _, number in cuts_with_values(net, arrivals, some))


def cover_book(net, arrivals):
    """The COVER of each set of customers by the values of all sets of spots."""
    spots = all_spots(net)
    values = []
    for many in range(len(spots) + 1):
        for far in combinations(spots, many):
            values.append((set(far), value(net, arrivals, set(far))))
    return {some: min(n for far, n in values if own_spots(net, some) <= far) for some in parts(people(net))}


def total_of(net, taking, some):
    return sum(amount for name, amount in zip(people(net), taking) if name in some)


def fits(net, book, taking):
    return all(total_of(net, taking, some) <= book[some] for some in book)


def goods_book(net, arrivals, plan):
    """What is there, is left, lies over and is given back, kept hour by hour."""
    moves, takes = plan
    lines = {row[0]: row for row in net[2]}
    at = {row[0]: row[1] for row in net[3]}
    over = {yard: 0 for yard, _ in net[1]}
    there, left, lies, back = {}, {}, {}, 0
    for hour in range(net[0]):
        for yard, room in net[1]:
            here = over[yard]
            here += sum(n for y, h, n in arrivals if (y, h) == (yard, hour))
            here += sum(n for x, h, n in moves if lines[x][2] == yard and h + lines[x][3] == hour)
            gone = sum(n for x, h, n in moves if lines[x][1] == yard and h == hour)
            gone += sum(n for c, h, n in takes if at[c] == yard and h == hour)
            there[yard, hour] = here
            left[yard, hour] = here - gone
            over[yard] = min(room, here - gone) if hour + 1 < net[0] else 0
            lies[yard, hour] = over[yard]
            back += here - gone - over[yard]
    return there, left, lies, back


def good_plan(net, arrivals, plan):
    """Whether a pair of triples of the right kinds is a PLAN."""
    moves, takes = plan
    lines = {row[0]: row for row in net[2]}
    own = {row[0]: row[2] for row in net[3]}
    for part in (moves, takes):
        if sorted({row[:2] for row in part}) != [row[:2] for row in part]:
            return False
        if any(row[2] < 1 for row in part):
            return False
    for line, hour, amount in moves:
        if line not in lines or not 0 <= hour < net[0] - lines[line][3] or amount > lines[line][4]:
            return False
    if any(name not in own or hour not in own[name] for name, hour, _ in takes):
        return False
    return min(goods_book(net, arrivals, plan)[1].values()) >= 0


def served(net, plan):
    return tuple(sum(row[2] for row in plan[1] if row[0] == name) for name in people(net))


def lowered(rows, at, by=1):
    """The rows with so much less of one of them; gone if nothing is left of it."""
    row = rows[at][:2] + (rows[at][2] - by,)
    return rows[:at] + ((row,) if row[2] > 0 else ()) + rows[at + 1:]


def as_lists(told):
    """The same with lists in the place of tuples, at any depth."""
    if isinstance(told, (tuple, list)):
        return [as_lists(part) for part in told]
    return told


STRANGE = [
    True, False, None, 0, 1, -1, 7, 10 ** 30, -10 ** 30, 10 ** 5000, "", "-", "a", "abc", "A", "hours 1; yard a 0", "a" * 5000,
    (), [], ((),), [()], ([],), ((), ()), ((), (), ()), ((), (), (), ()), [[], []], (1,), (1, 2), (1, 2, 3), (0, 0), (True,),
    ("a",), ("a", "b"), ("b", "a"), ("a", 0), ("a", True), (("a", 0),), (("a", 0, 1),), (("a", True, 1),), (("a", 0, True),),
    ((("a", 0, 1),), ()), ((), (("a", 0, 1),)), (["a", 0],), (("a", -1),), (("a", 0), ("a", 0)), ((("a",), 0),), (([], 0),),
    ((None, 0),), ((0, "a"),), (("a", "a"),), (("a", 0, 0),), (("a", 0, -1),), (("a", None, 1),), ((["a"], 0, 1),),
    (((((((((((1,),),),),),),),),),),), [[[[[[[[[[[[]]]]]]]]]]]], ("a",) * 3000, (("a", 0),) * 3000, (("a", 0, 1),) * 3000,
    (0,) * 3000, ((), ("a",)), (("a",), ()), ([], []), ((), []), ([], ()),
    (1, (("a", 0),), (), ()), [1, (("a", 0),), (), ()], (1, [("a", 0)], (), ()), (True, (("a", 0),), (), ()),
    (1, (("a", True),), (), ()), (1, (("a", 0),), (("a", 0),), ((),)), (1, (("a", 0),), (("x", "a", [], 0, 1),), ()),
    (1, (("a", 0),), (), (("m", [], ()),)), (1, (("a", 0),), (), (("m", "a", (True,)),)), (1, (("a", 0),), (), (("m", "a", ([],)),)),
]
