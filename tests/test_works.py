"""Works: GROWTH by COVERS here and there, losers and gainers against all RANKS, ROWS answered here and there."""

import random
import unittest

from helpers import STRANGE, all_spots, answered, as_lists, check_raises, cover_book, lively_great, lively_nets, parts, people, ranks, shares
from helpers import together, total_of

from freightrights.covers import cover, covers
from freightrights.cuts import least_cut
from freightrights.errors import NoCustomer, NoNumber, NoYard, OtherCustomers
from freightrights.rights import by_rank_wished
from freightrights.works import all_growths, falling, gainers, growing_spots, growth, helped, is_losing_rank, losers, losing_rank, lost_units
from freightrights.works import most_lost, never_harms

NET = (2, (("x", 0), ("y", 0)), (("l", "x", "y", 0, 1), ("m", "x", "y", 1, 2)), (("a", "x", (0, 1)), ("b", "y", (0,)), ("c", "y", (1,))))
WIDE = NET[:2] + ((("l", "x", "y", 0, 2), ("m", "x", "y", 1, 2)),) + NET[3:]
COME = (("x", 0, 3),)
BARE = (1, (("a", 0),), (), ())
OTHER = NET[:3] + (NET[3][:2],)
GREAT = 10 ** 30


def one_more(arrivals, yard, hour):
    goods = {row[:2]: row[2] for row in arrivals}
    goods[yard, hour] = goods.get((yard, hour), 0) + 1
    return tuple(spot + (goods[spot],) for spot in sorted(goods))


def reworked(chance, net, arrivals):
    """The NET with some mosts, rooms and hours changed, and ARRIVALS with some amounts changed."""
    yards = tuple((name, max(0, room + chance.choice([0, 0, 1, -1]))) for name, room in net[1])
    lines = tuple(row[:4] + (max(0, row[4] + chance.choice([0, 0, 1, -1, 2])),) for row in net[2])
    rows = []
    for name, yard, own in net[3]:
        rows.append((name, yard, own if chance.random() < 0.7 else tuple(hour for hour in range(net[0]) if chance.random() < 0.6)))
    goods = [row[:2] + (row[2] + chance.choice([0, 0, 1, -1]),) for row in arrivals]
    return (net[0], yards, lines, tuple(rows)), tuple(row for row in goods if row[2] > 0)


def cases(seed, many, customers=4):
    """NETS here and there with their COVERS; some NETS there have nothing in common with those here but the customers."""
    rows = list(lively_nets(seed, many, customers))
    for at, (net, arrivals, book) in enumerate(rows):
        new, coming = reworked(random.Random(seed + at), net, arrivals)
        yield at, net, arrivals, book, new, coming, cover_book(new, coming)
        for other, later, second in rows[:at]:
            if people(net) == people(other) and at % 4 == 0:
                yield at, net, arrivals, book, other, later, second


class Growths(unittest.TestCase):
    def test_by_covers(self):
        fell = 0
        for at, net, arrivals, here, new, coming, there in cases(10000, 70):
            names = people(net)
            grown = {some: there[some] - here[some] for some in parts(names)}
            self.assertEqual(all_growths(net, arrivals, new, coming), tuple((some, grown[some]) for some in sorted(grown)))
            pairs = []
            for some in grown:
                self.assertEqual(growth(net, arrivals, new, coming, some), grown[some])
                for name in names:
                    if name not in some and grown[together(some, (name,))] < grown[some]:
                        pairs.append((len(some), (some, name)))
            fell += bool(pairs)
            told = (min(pairs)[1] if pairs else None, not pairs)
            self.assertEqual((falling(net, arrivals, new, coming), never_harms(net, arrivals, new, coming)), told)
            given = as_lists((net, arrivals, new, coming))
            self.assertEqual((falling(*given), never_harms(*given)), told)
            self.assertEqual(growth(*given, list(names)), grown[names])
        self.assertGreater(fell, 30)

    def test_great(self):
        for seed, (net, arrivals) in enumerate(lively_great(10100, 15)):
            new, coming = reworked(random.Random(seed), net, arrivals)
            here, there = dict(covers(net, arrivals)), dict(covers(new, coming))
            self.assertEqual(all_growths(net, arrivals, new, coming), tuple((some, there[some] - here[some]) for some in sorted(here)))
            again = all_growths(new, coming, net, arrivals)
            self.assertEqual(again, tuple((some, here[some] - there[some]) for some in sorted(here)))
            self.assertIs(never_harms(net, arrivals, net, arrivals), True)


class Ranks(unittest.TestCase):
    def test_all_ranks(self):
        lost_at_all = 0
        for at, net, arrivals, here, new, coming, there in cases(10200, 60):
            less = {rank: tuple(one - other for one, other in zip(shares(net, here, rank), shares(new, there, rank))) for rank in ranks(net)}
            losing = tuple(name for at, name in enumerate(people(net)) if any(row[at] > 0 for row in less.values()))
            gaining = tuple(name for at, name in enumerate(people(net)) if any(row[at] < 0 for row in less.values()))
            given = as_lists((net, arrivals, new, coming))
            self.assertEqual((losers(net, arrivals, new, coming), gainers(net, arrivals, new, coming)), (losing, gaining))
            self.assertEqual((losers(*given), gainers(*given)), (losing, gaining))
            self.assertEqual(never_harms(net, arrivals, new, coming), not losing)
            for at, name in enumerate(people(net)):
                most = max(0, max(row[at] for row in less.values()))
                lost_at_all += most > 0
                self.assertEqual(most_lost(net, arrivals, new, coming, name), most)
                self.assertEqual(most_lost(*given, name), most)
                rank = losing_rank(net, arrivals, new, coming, name)
                self.assertEqual((rank is None, losing_rank(*given, name)), (most == 0, rank))
                self.assertTrue(rank is None or less[rank][at] == most)
                for rank in less:
                    right = most > 0 and less[rank][at] == most
                    self.assertIs(is_losing_rank(net, arrivals, new, coming, name, rank), right)
                    self.assertIs(is_losing_rank(net, arrivals, new, coming, name, list(rank)), False)
        self.assertGreater(lost_at_all, 40)

    def test_things(self):
        self.assertIs(is_losing_rank(NET, COME, WIDE, COME, "c", ("b", "c", "a")), True)
        for thing in (("b", "c"), ("b", "c", "c"), ("b", "c", "a", "a"), ["b", "c", "a"], ("b", "c", "z"), ("b", "c", None), (("b",), "c", "a"), "bca",
                      ("b", "c", 1), ("b", ["c"], "a"), ("c", "b", "a"), ("b", "c", True), ()):
            self.assertIs(is_losing_rank(NET, COME, WIDE, COME, "c", thing), False, thing)
        for thing in STRANGE:
            self.assertIs(is_losing_rank(NET, COME, WIDE, COME, "c", thing), False)
            self.assertIs(is_losing_rank(NET, COME, WIDE, COME, "c", ("b", "c", thing)), thing == "a")
            self.assertIs(is_losing_rank(NET, COME, WIDE, COME, "b", thing), False)
        for rank in (("a", "b", "c"), ("b", "a", "c"), ("c", "a", "b")):
            self.assertIs(is_losing_rank(NET, COME, WIDE, COME, "b", rank), False)

    def test_with_wishes(self):
        """Where GROWTH never falls nobody gets less with whatever WISHES; where it falls somebody does by a RANK."""
        for at, net, arrivals, here, new, coming, there in cases(10300, 40):
            chance = random.Random(at)
            harms = not never_harms(net, arrivals, new, coming)
            for _ in range(6):
                wishes = tuple(chance.choice([0, 1, 2, 3, 9]) for _ in people(net))
                rank = chance.choice(ranks(net))
                one, other = by_rank_wished(net, arrivals, wishes, rank), by_rank_wished(new, coming, wishes, rank)
                self.assertTrue(harms or all(n <= m for n, m in zip(one, other)))


class Rows(unittest.TestCase):
    def test_both_answered(self):
        lost_at_all = 0
        for at, net, arrivals, here, new, coming, there in cases(10400, 70):
            chance = random.Random(at)
            row = tuple(chance.choice(people(net)) for _ in range(chance.choice([0, 5, 12]))) if people(net) else ()
            one, other = answered(net, here, row)[0], answered(new, there, row)[0]
            lost = tuple(place for place in range(len(row)) if one[place] and not other[place])
            lost_at_all += bool(lost)
            self.assertEqual(lost_units(net, arrivals, new, coming, row), lost)
            self.assertEqual(lost_units(*as_lists((net, arrivals, new, coming, row))), lost)
            self.assertTrue(not lost or not never_harms(net, arrivals, new, coming))
        self.assertGreater(lost_at_all, 20)

    def test_sixty(self):
        self.assertEqual(lost_units(NET, COME, WIDE, COME, ("b", "b", "a", "c", "c") * 12), (3,))
        self.assertEqual(lost_units(NET, (("x", 0, GREAT),), NET, (), ("a",) * 60), tuple(range(60)))
        self.assertEqual(lost_units(NET, COME, WIDE, COME, ()), ())


class Spots(unittest.TestCase):
    def test_one_unit_more(self):
        for net, arrivals, book in lively_nets(10500, 50, 4):
            more = {spot: cover_book(net, one_more(arrivals, *spot)) for spot in all_spots(net)}
            for some in book:
                growing = tuple(spot for spot in sorted(more) if more[spot][some] == book[some] + 1)
                self.assertTrue(all(more[spot][some] - book[some] in (0, 1) for spot in more))
                self.assertEqual(growing_spots(net, arrivals, some), growing)
                self.assertEqual(growing_spots(net, arrivals, some), least_cut(net, arrivals, some))
                self.assertEqual(growing_spots(as_lists(net), as_lists(arrivals), list(some)), growing)
            for yard, hour in more:
                gaining = []
                for name in people(net):
                    sets = [some for some in book if name not in some]
                    added = [more[yard, hour][together(some, (name,))] - more[yard, hour][some] > book[together(some, (name,))] - book[some] for some in sets]
                    gaining += [name] if any(added) else []
                self.assertEqual(helped(net, arrivals, yard, hour), tuple(gaining))
                self.assertEqual(helped(as_lists(net), as_lists(arrivals), yard, hour), tuple(gaining))
                self.assertIs(never_harms(net, arrivals, net, one_more(arrivals, yard, hour)), True)

    def test_helped_by_ranks(self):
        for net, arrivals, book in lively_nets(10600, 25):
            for yard, hour in all_spots(net):
                more = cover_book(net, one_more(arrivals, yard, hour))
                pairs = [(shares(net, book, rank), shares(net, more, rank)) for rank in ranks(net)]
                right = tuple(name for name in people(net) if any(total_of(net, one, (name,)) < total_of(net, other, (name,)) for one, other in pairs))
                self.assertEqual(helped(net, arrivals, yard, hour), right)

    def test_great(self):
        net = (2, (("a", GREAT), ("b", 0)), (("x", "a", "b", 1, GREAT),), (("m", "b", (1,)), ("n", "a", (1,))))
        for amount, grow in ((GREAT - 1, (("a", 0), ("b", 1))), (GREAT, (("b", 1),)), (GREAT + 1, (("b", 1),))):
            self.assertEqual(growing_spots(net, (("a", 0, amount),), ("m",)), grow)
        self.assertEqual(growing_spots(net, (("a", 0, 2 * GREAT - 1),), ("m", "n")), (("a", 0), ("a", 1), ("b", 1)))
        self.assertEqual((helped(net, (("a", 0, 2 * GREAT),), "a", 0), helped(net, (("a", 0, 2 * GREAT - 1),), "a", 0)), ((), ("m", "n")))
        self.assertEqual(helped(net, (), "b", 0), ())


class Edges(unittest.TestCase):
    def test_nobody(self):
        two = (2, (("a", 0), ("b", 3)), (), ())
        self.assertEqual((all_growths(BARE, (), two, ()), never_harms(BARE, (), two, ()), falling(BARE, (), two, ())), ((((), 0),), True, None))
        self.assertEqual((losers(BARE, (), two, ()), gainers(BARE, (), two, ()), lost_units(BARE, (), two, (), ())), ((), (), ()))
        self.assertEqual((growth(BARE, (), two, (), ()), growing_spots(BARE, (), ()), helped(BARE, (), "a", 0)), (0, (), ()))

    def test_other_yards_and_hours(self):
        """Nothing but the NAMES of the customers has to be the same."""
        one = (2, (("a", 1),), (), (("m", "a", ()), ("n", "a", (0, 1))))
        two = (1, (("q", 0), ("r", 0)), (), (("m", "q", (0,)), ("n", "r", ())))
        self.assertEqual(all_growths(one, (("a", 0, GREAT),), two, (("q", 0, 5),)), (((), 0), (("m",), 5), (("m", "n"), 5 - GREAT), (("n",), -GREAT)))
        self.assertEqual((losers(one, (("a", 0, GREAT),), two, (("q", 0, 5),)), gainers(one, (("a", 0, GREAT),), two, (("q", 0, 5),))), (("n",), ("m",)))
        self.assertEqual((most_lost(one, (("a", 0, GREAT),), two, (), "n"), most_lost(one, (), two, (("q", 0, 5),), "m")), (GREAT, 0))
        self.assertIsNone(losing_rank(one, (), two, (("q", 0, 5),), "m"))
        self.assertEqual(falling(one, (("a", 0, 1),), two, ()), ((), "n"))
        self.assertEqual(cover(two, (("q", 0, 5),), ("m",)), 5)


class Wrong(unittest.TestCase):
    def test_other_customers(self):
        for new in (OTHER, BARE, as_lists(OTHER), NET[:3] + (NET[3][:2] + (("d", "y", (1,)),),)):
            for one, other in ((NET, new), (new, NET)):
                for call in (all_growths, falling, never_harms, losers, gainers):
                    check_raises(self, OtherCustomers, {}, call, one, (), other, ())
                for some in (("a",), ("z",), ()):
                    check_raises(self, OtherCustomers, {}, growth, one, (), other, (), some)
                    check_raises(self, OtherCustomers, {}, lost_units, one, (), other, (), some)
                for name in ("a", "z", ""):
                    for call in (most_lost, losing_rank):
                        check_raises(self, OtherCustomers, {}, call, one, (), other, (), name)
                    for thing in STRANGE[::6]:
                        check_raises(self, OtherCustomers, {}, is_losing_rank, one, (), other, (), name, thing)

    def test_no_customer(self):
        for some, first in ((("z",), "z"), (("", "a"), ""), (("a", "p", "z"), "p"), (["x"], "x")):
            check_raises(self, NoCustomer, {"name": first}, growth, NET, COME, WIDE, COME, some)
            check_raises(self, NoCustomer, {"name": first}, growing_spots, NET, COME, some)
            check_raises(self, NoCustomer, {"name": first}, lost_units, NET, COME, WIDE, COME, some)
        for name in ("z", "", "x", "l", "A"):
            for call in (most_lost, losing_rank):
                check_raises(self, NoCustomer, {"name": name}, call, NET, COME, WIDE, COME, name)
            for thing in STRANGE[::6] + [("b", "c", "a")]:
                check_raises(self, NoCustomer, {"name": name}, is_losing_rank, NET, COME, WIDE, COME, name, thing)

    def test_no_yard_then_no_number(self):
        for hour in (0, -1, 2, GREAT):
            for yard in ("z", "", "a", "l", "X"):
                check_raises(self, NoYard, {"name": yard}, helped, NET, COME, yard, hour)
            if hour != 0:
                check_raises(self, NoNumber, {"number": hour}, helped, NET, COME, "x", hour)


if __name__ == "__main__":
    unittest.main()
