"""What several tests need: NETS by chance, and plain looks of their own at PLANS, CUTS and COVERS."""

import random
from itertools import combinations, permutations, product

from freightrights.covers import cover

NAMES = "abcdefgh"


def some_hours(chance, hours):
    return tuple(hour for hour in range(hours) if chance.random() < 0.6)


def amount_of(chance, great):
    if great and chance.random() < 0.5:
        return chance.choice([10 ** 30, 10 ** 30 - 1, 10 ** 29 + 7, 3 * 10 ** 28])
    return chance.randint(0, 4)


def chance_line(chance, name, yards, great):
    start, goal = chance.sample(range(len(yards)), 2)
    late = chance.choice([0, 0, 1, 1, 2, 3, 5])
    if late == 0 and start > goal:
        start, goal = goal, start
    return (name, yards[start], yards[goal], late, amount_of(chance, great))


def chance_net(seed, hours=3, yards=3, lines=4, customers=3, great=False):
    """A NET of at most so much, and ARRIVALS of it; by the same seed always the same ones."""
    chance = random.Random(seed)
    hours = chance.randint(1, hours)
    names = sorted(chance.sample("pqrstuv", chance.randint(1, yards)))
    mixed = chance.sample(names, len(names))
    rows = []
    for k in range(chance.randint(0, lines) if len(names) > 1 else 0):
        rows.append(chance_line(chance, NAMES[k], mixed, great))
    people = []
    for k in range(chance.randint(0, customers)):
        people.append((NAMES[k] + "x", chance.choice(names), some_hours(chance, hours)))
    rooms = tuple((name, amount_of(chance, great)) for name in names)
    net = (hours, rooms, tuple(rows), tuple(people))
    arrivals = []
    for name in names:
        for hour in range(hours):
            amount = amount_of(chance, great)
            if amount > 0 and chance.random() < 0.5:
                arrivals.append((name, hour, amount))
    return net, tuple(arrivals)


def all_spots(net):
    return [(yard, hour) for yard, _ in net[1] for hour in range(net[0])]


def people(net):
    return tuple(row[0] for row in net[3])


def parts(names):
    """All sets of these, as ascending tuples, ascending."""
    return sorted(row for many in range(len(names) + 1) for row in combinations(names, many))


def own_spots(net, some):
    return {(yard, hour) for name, yard, own in net[3] if name in some for hour in own}


def value(net, arrivals, far):
    """The value of a CUT by a look at each arrival, each line and hour, each yard and hour."""
    total = sum(amount for yard, hour, amount in arrivals if (yard, hour) in far)
    for _, start, goal, late, most in net[2]:
        for hour in range(net[0]):
            if hour + late < net[0] and (start, hour) not in far and (goal, hour + late) in far:
                total += most
    for yard, room in net[1]:
        for hour in range(1, net[0]):
            if (yard, hour - 1) not in far and (yard, hour) in far:
                total += room
    return total


def cuts_with_values(net, arrivals, some):
    """All CUTS for these, each as an ascending tuple with its value."""
    must = own_spots(net, some)
    free = [spot for spot in all_spots(net) if spot not in must]
    rows = []
    for many in range(len(free) + 1):
        for more in combinations(free, many):
            far = must.union(more)
            rows.append((tuple(sorted(far)), value(net, arrivals, far)))
    return rows


def least_value(net, arrivals, some):
    return min(number for _, number in cuts_with_values(net, arrivals, some))


def cover_book(net, arrivals):
    """The COVER of each set of customers by the values of all sets of spots."""
    spots = all_spots(net)
    values = []
    for many in range(len(spots) + 1):
        for far in combinations(spots, many):
            values.append((set(far), value(net, arrivals, set(far))))
    return {some: min(n for far, n in values if own_spots(net, some) <= far) for some in parts(people(net))}


def total_of(net, taking, some):
    return sum(amount for name, amount in zip(people(net), taking) if name in some)


def fits(net, book, taking):
    return all(total_of(net, taking, some) <= book[some] for some in book)


def small_nets(seed, many, customers=3, spots=8, great=0):
    """NETS of so few spots, ARRIVALS, and the book of COVERS."""
    found = 0
    while found < many:
        net, arrivals = chance_net(seed, 4, 3, 5, customers, great > 0 and seed % great == 0)
        seed += 1
        if len(all_spots(net)) <= spots:
            found += 1
            yield net, arrivals, cover_book(net, arrivals)


def taking_nets(seed, many, customers=3, most=60):
    """NETS with the book of COVERS and all TAKINGS that can be, at most so many."""
    found = 0
    while found < many:
        net, arrivals = chance_net(seed, 4, 3, 5, customers)
        seed += 1
        if len(all_spots(net)) > 8:
            continue
        book = cover_book(net, arrivals)
        bounds = [range(book[(name,)] + 1) for name in people(net)]
        if 1 <= len(list(product(*bounds))) <= 4 * most:
            takings = [row for row in product(*bounds) if fits(net, book, row)]
            if len(takings) <= most:
                found += 1
                yield net, arrivals, book, takings


def great_nets(seed, many, customers=6):
    """NETS as great as bounds let them be, some with great amounts."""
    for at in range(many):
        yield chance_net(seed + at, 6, 5, 8, customers, at % 2 == 0)


def lively(many, rows):
    """So many of these rows of a NET, ARRIVALS and more, most such that customers are in the way of each other."""
    found = 0
    for at, row in enumerate(rows):
        net, arrivals = row[:2]
        alone = sum(cover(net, arrivals, (name,)) for name in people(net))
        if alone > cover(net, arrivals, people(net)) or at % 16 == 0:
            found += 1
            yield row
        if found == many:
            return


def lively_nets(seed, many, customers=3, spots=8, great=0):
    return lively(many, small_nets(seed, 10 ** 6, customers, spots, great))


def lively_takings(seed, many, customers=3, most=60):
    return lively(many, taking_nets(seed, 10 ** 6, customers, most))


def lively_great(seed, many, customers=6):
    return lively(many, great_nets(seed, 10 ** 6, customers))


def changed(net, taking, name, more):
    at = people(net).index(name)
    return taking[:at] + (taking[at] + more,) + taking[at + 1:]


def together(one, other):
    return tuple(sorted(set(one) | set(other)))


def ranks(net):
    return list(permutations(people(net)))


def shares(net, book, rank):
    """What all get by a RANK, by the COVERS of its beginnings."""
    got = {}
    for at, name in enumerate(rank):
        got[name] = book[tuple(sorted(rank[:at + 1]))] - book[tuple(sorted(rank[:at]))]
    return tuple(got[name] for name in people(net))


def answered(net, book, row, taking=None):
    """The answers to a ROW and what it serves, request by request, from a TAKING on."""
    taking = taking or (0,) * len(people(net))
    answers = []
    for name in row:
        more = changed(net, taking, name, 1)
        answers.append(fits(net, book, more))
        if answers[-1]:
            taking = more
    return tuple(answers), taking


def some_wishes(chance, net, book, great=False):
    """WISHES by chance, about as great as what each customer can take."""
    rows = []
    for name in people(net):
        most = book[(name,)]
        rows.append(chance.choice([0, most, most + 1, most // 2, most // 3 + 1, 10 ** 30 if great else 5]))
    return tuple(rows)


def some_classes(chance, net):
    """CLASSES by chance, some of nobody."""
    names = list(people(net))
    many = chance.choice([1, 1, 2, 3, 4])
    classes = [[] for _ in range(many)]
    for name in names:
        chance.choice(classes).append(name)
    return tuple(tuple(row) for row in classes)


def goods_book(net, arrivals, plan):
    """What is there, is left, lies over and is given back, kept hour by hour."""
    moves, takes = plan
    lines = {row[0]: row for row in net[2]}
    at = {row[0]: row[1] for row in net[3]}
    over = {yard: 0 for yard, _ in net[1]}
    there, left, lies, back = {}, {}, {}, 0
    for hour in range(net[0]):
        for yard, room in net[1]:
            here = over[yard]
            here += sum(n for y, h, n in arrivals if (y, h) == (yard, hour))
            here += sum(n for x, h, n in moves if lines[x][2] == yard and h + lines[x][3] == hour)
            gone = sum(n for x, h, n in moves if lines[x][1] == yard and h == hour)
            gone += sum(n for c, h, n in takes if at[c] == yard and h == hour)
            there[yard, hour] = here
            left[yard, hour] = here - gone
            over[yard] = min(room, here - gone) if hour + 1 < net[0] else 0
            lies[yard, hour] = over[yard]
            back += here - gone - over[yard]
    return there, left, lies, back


def good_plan(net, arrivals, plan):
    """Whether a pair of triples of the right kinds is a PLAN."""
    moves, takes = plan
    lines = {row[0]: row for row in net[2]}
    own = {row[0]: row[2] for row in net[3]}
    for part in (moves, takes):
        if sorted({row[:2] for row in part}) != [row[:2] for row in part]:
            return False
        if any(row[2] < 1 for row in part):
            return False
    for line, hour, amount in moves:
        if line not in lines or not 0 <= hour < net[0] - lines[line][3] or amount > lines[line][4]:
            return False
    if any(name not in own or hour not in own[name] for name, hour, _ in takes):
        return False
    return min(goods_book(net, arrivals, plan)[1].values()) >= 0


def served(net, plan):
    return tuple(sum(row[2] for row in plan[1] if row[0] == name) for name in people(net))


def lowered(rows, at, by=1):
    """The rows with so much less of one of them; gone if nothing is left of it."""
    row = rows[at][:2] + (rows[at][2] - by,)
    return rows[:at] + ((row,) if row[2] > 0 else ()) + rows[at + 1:]


def as_lists(told):
    """The same with lists in the place of tuples, at any depth."""
    if isinstance(told, (tuple, list)):
        return [as_lists(part) for part in told]
    return told


def same(one, other):
    """Whether both are equal, True being no 1 and a list no tuple."""
    if type(one) is not type(other):
        return False
    if isinstance(one, (tuple, list)):
        return len(one) == len(other) and all(same(*pair) for pair in zip(one, other))
    return one == other


def check_raises(case, error, kept, call, *told):
    """That the call raises just this error, with just these values."""
    with case.assertRaises(error) as caught:
        call(*told)
    case.assertIs(type(caught.exception), error)
    case.assertEqual(vars(caught.exception), kept)


STRANGE = [
    True, False, None, 0, 1, -1, 7, 10 ** 30, -10 ** 30, 10 ** 5000, "", "-", "a", "abc", "A", "hours 1; yard a 0", "a" * 5000,
    (), [], ((),), [()], ([],), ((), ()), ((), (), ()), ((), (), (), ()), [[], []], (1,), (1, 2), (1, 2, 3), (0, 0), (True,),
    ("a",), ("a", "b"), ("b", "a"), ("a", 0), ("a", True), (("a", 0),), (("a", 0, 1),), (("a", True, 1),), (("a", 0, True),),
    ((("a", 0, 1),), ()), ((), (("a", 0, 1),)), (["a", 0],), (("a", -1),), (("a", 0), ("a", 0)), ((("a",), 0),), (([], 0),),
    ((None, 0),), ((0, "a"),), (("a", "a"),), (("a", 0, 0),), (("a", 0, -1),), (("a", None, 1),), ((["a"], 0, 1),),
    (((((((((((1,),),),),),),),),),),), [[[[[[[[[[[[]]]]]]]]]]]], ("a",) * 3000, (("a", 0),) * 3000, (("a", 0, 1),) * 3000,
    (0,) * 3000, ((), ("a",)), (("a",), ()), ([], []), ((), []), ([], ()),
    (1, (("a", 0),), (), ()), [1, (("a", 0),), (), ()], (1, [("a", 0)], (), ()), (True, (("a", 0),), (), ()),
    (1, (("a", True),), (), ()), (1, (("a", 0),), (("a", 0),), ((),)), (1, (("a", 0),), (("x", "a", [], 0, 1),), ()),
    (1, (("a", 0),), (), (("m", [], ()),)), (1, (("a", 0),), (), (("m", "a", (True,)),)), (1, (("a", 0),), (), (("m", "a", ([],)),)),
]
