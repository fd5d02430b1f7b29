"""Rights by RANK against all RANKS of small NETS; great amounts by the COVERS of beginnings."""

import random
import unittest
from itertools import permutations

from helpers import as_lists, check_raises, fits, lively_great, ranks, parts, people, shares, lively_nets, some_wishes, lively_takings, together
from helpers import total_of

from freightrights.covers import covers
from freightrights.errors import NoCustomer, NoNumber, OtherCustomers
from freightrights.rights import by_rank, by_rank_wished, corners, how_many_ranks, idle_places, is_corner, lead_alike, most_share
from freightrights.rights import pushed, pushing_rank, rank_to, sure_share, sure_share_at, weights_against, worst_rank_at

NET = (2, (("a", 1), ("b", 0)), (("l", "a", "b", 1, 2),), (("p", "a", (0, 1)), ("q", "b", (1,)), ("r", "b", (0, 1))))
GOODS = (("a", 0, 3), ("a", 1, 1), ("b", 0, 1))
BARE = (1, (("a", 0),), (), ())
GREAT = 10 ** 30


def nets(many=60, four=12):
    return list(lively_nets(4000, many, 3, 8, 6)) + [row for row in lively_nets(4200, 3 * four, 5, 8) if len(people(row[0])) >= 4][:four]


def own(net, taking, name):
    return taking[people(net).index(name)]


def swapped(rank, at):
    return rank[:at] + (rank[at + 1], rank[at]) + rank[at + 2:]


class Ranks(unittest.TestCase):
    def test_by_covers(self):
        for net, arrivals, book in nets():
            for rank in ranks(net):
                taking = shares(net, book, rank)
                self.assertEqual(by_rank(net, arrivals, rank), taking)
                self.assertEqual(by_rank(as_lists(net), as_lists(arrivals), list(rank)), taking)
                self.assertTrue(fits(net, book, taking))
                idle = tuple(at for at in range(len(rank) - 1) if shares(net, book, swapped(rank, at)) == taking)
                self.assertEqual(idle_places(net, arrivals, rank), idle)

    def test_great(self):
        for seed, (net, arrivals) in enumerate(lively_great(4100, 40)):
            book = dict(covers(net, arrivals))
            chance = random.Random(seed)
            for _ in range(3):
                rank = tuple(chance.sample(people(net), len(people(net))))
                self.assertEqual(by_rank(net, arrivals, rank), shares(net, book, rank))
                self.assertEqual(by_rank_wished(net, arrivals, [GREAT * 9] * len(rank), rank), shares(net, book, rank))

    def test_wished(self):
        for seed, (net, arrivals, book) in enumerate(nets()):
            chance = random.Random(seed)
            for wishes in [some_wishes(chance, net, book, True) for _ in range(3)]:
                for rank in ranks(net)[::3]:
                    got = dict.fromkeys(people(net), 0)
                    for name in rank:
                        beside = [book[some] - sum(got[own] for own in some) for some in book if name in some]
                        got[name] = min(beside + [wishes[people(net).index(name)]])
                    self.assertEqual(by_rank_wished(net, arrivals, wishes, rank), tuple(got[name] for name in people(net)))

    def test_wished_unit_by_unit(self):
        for seed, (net, arrivals, book, takings) in enumerate(lively_takings(4300, 40)):
            chance = random.Random(seed)
            wishes = some_wishes(chance, net, book)
            for rank in ranks(net):
                rows = takings
                for name in rank:
                    within = [row for row in rows if own(net, row, name) <= own(net, wishes, name)]
                    most = max(own(net, row, name) for row in within)
                    rows = [row for row in within if own(net, row, name) == most]
                self.assertEqual([by_rank_wished(net, arrivals, wishes, rank)], rows)

    def test_weights_of_all_sorts(self):
        """By weights that never rise along the RANK nobody has more; by all of them only this TAKING has as much."""
        for net, arrivals, book, takings in lively_takings(4400, 40):
            for rank in ranks(net):
                best = by_rank(net, arrivals, rank)
                for taking in takings:
                    for many in range(len(rank) + 1):
                        self.assertLessEqual(total_of(net, taking, rank[:many]), total_of(net, best, rank[:many]))
                    weights = weights_against(net, arrivals, rank, taking)
                    self.assertEqual(weights is None, taking == best)
                    short = [rank[:many] for many in range(len(rank) + 1) if total_of(net, taking, rank[:many]) < total_of(net, best, rank[:many])]
                    if weights is not None:
                        self.assertEqual(weights, tuple(int(name in short[0]) for name in people(net)))
                        self.assertLess(sum(n * w for n, w in zip(taking, weights)), sum(n * w for n, w in zip(best, weights)))


class Corners(unittest.TestCase):
    def test_all(self):
        for net, arrivals, book, takings in lively_takings(4500, 60):
            leading = {}
            for rank in ranks(net):
                leading.setdefault(shares(net, book, rank), []).append(rank)
            self.assertEqual(corners(net, arrivals), tuple(sorted(leading)))
            for taking in takings + [tuple(number + 1 for number in row) for row in takings[::3]]:
                rows = leading.get(taking, [])
                self.assertIs(is_corner(net, arrivals, taking), bool(rows))
                self.assertEqual(rank_to(net, arrivals, taking), min(rows) if rows else None)
                self.assertEqual(how_many_ranks(net, arrivals, taking), len(rows))
                self.assertIs(is_corner(net, arrivals, list(taking)), bool(rows))

    def test_full_beginnings(self):
        for net, arrivals, book in nets(20, 8):
            for taking in corners(net, arrivals):
                for rank in ranks(net):
                    full = all(total_of(net, taking, rank[:many]) == book[tuple(sorted(rank[:many]))] for many in range(len(rank) + 1))
                    self.assertEqual(by_rank(net, arrivals, rank) == taking, full)

    def test_many(self):
        for net, arrivals in lively_great(4600, 14):
            book = dict(covers(net, arrivals))
            leading = {}
            for rank in ranks(net):
                leading.setdefault(shares(net, book, rank), []).append(rank)
            self.assertEqual(corners(net, arrivals), tuple(sorted(leading)))
            for taking in list(leading)[:5]:
                self.assertEqual(how_many_ranks(net, arrivals, taking), len(leading[taking]))
                self.assertEqual(rank_to(net, arrivals, taking), min(leading[taking]))

    def test_lead_alike(self):
        for net, arrivals, book in nets(25, 4):
            rows = ranks(net)
            for one in rows[::2]:
                for other in rows[::3]:
                    self.assertIs(lead_alike(net, arrivals, one, other), shares(net, book, one) == shares(net, book, other))


class Places(unittest.TestCase):
    def test_shares(self):
        for net, arrivals, book in nets():
            for name in people(net):
                got = {rank: own(net, shares(net, book, rank), name) for rank in ranks(net)}
                self.assertEqual(sure_share(net, arrivals, name), min(got.values()))
                self.assertEqual(most_share(net, arrivals, name), max(got.values()))
                for place in range(len(people(net))):
                    least = min(got[rank] for rank in got if rank[place] == name)
                    self.assertEqual(sure_share_at(net, arrivals, name, place), least)
                    worst = worst_rank_at(net, arrivals, name, place)
                    self.assertEqual((worst[place], got[worst]), (name, least))
                    self.assertEqual(worst_rank_at(as_lists(net), as_lists(arrivals), name, place), worst)
                for place in (-1, -GREAT, len(people(net)), len(people(net)) + 1, GREAT):
                    for call in (sure_share_at, worst_rank_at):
                        check_raises(self, NoNumber, {"number": place}, call, net, arrivals, name, place)

    def test_shares_within_wishes(self):
        """With whatever WISHES of the others a customer that wishes all gets no less, and no more."""
        for seed, (net, arrivals, book) in enumerate(nets(30, 6)):
            chance = random.Random(seed)
            for name in people(net):
                for _ in range(4):
                    wishes = list(some_wishes(chance, net, book))
                    wishes[people(net).index(name)] = 10 ** 40
                    got = own(net, by_rank_wished(net, arrivals, wishes, chance.choice(ranks(net))), name)
                    self.assertTrue(sure_share(net, arrivals, name) <= got <= most_share(net, arrivals, name))

    def test_pushed(self):
        for net, arrivals, book in nets():
            for one, other in permutations(people(net), 2):
                lost = []
                for rank in ranks(net):
                    now = own(net, shares(net, book, rank), one)
                    at, behind = rank.index(one), rank.index(other)
                    for place in range(at + 1 if at < behind else 0):
                        rest = rank[:behind] + rank[behind + 1:]
                        lost.append(now - own(net, shares(net, book, rest[:place] + (other,) + rest[place:]), one))
                self.assertEqual(pushed(net, arrivals, one, other), max(lost))
                self.assertEqual(pushed(net, arrivals, other, one), max(lost))
                rank = pushing_rank(net, arrivals, one, other)
                self.assertEqual(rank is None, max(lost) == 0)
                if rank is not None:
                    self.assertEqual(sorted(rank), list(people(net)))
                    at = rank.index(one)
                    self.assertEqual(rank[at + 1], other)
                    changed = own(net, shares(net, book, swapped(rank, at)), one)
                    self.assertEqual(own(net, shares(net, book, rank), one) - changed, max(lost))

    def test_great(self):
        for net, arrivals in lively_great(4700, 12):
            book = dict(covers(net, arrivals))
            names = people(net)
            for name in names:
                adds = {some: book[together(some, (name,))] - book[some] for some in parts(names) if name not in some}
                for place in range(len(names)):
                    self.assertEqual(sure_share_at(net, arrivals, name, place), min(adds[some] for some in adds if len(some) == place))
                for other in names:
                    if other != name:
                        rows = [adds[some] - adds[together(some, (other,))] for some in adds if other not in some]
                        self.assertEqual(pushed(net, arrivals, name, other), max(rows))


class Edges(unittest.TestCase):
    def test_nobody(self):
        self.assertEqual((by_rank(BARE, (), ()), by_rank_wished(BARE, (), (), ()), weights_against(BARE, (), (), ())), ((), (), None))
        self.assertEqual((corners(BARE, ()), rank_to(BARE, (), ()), how_many_ranks(BARE, (), ()), is_corner(BARE, (), ())), (((),), (), 1, True))
        self.assertEqual((lead_alike(BARE, (), (), ()), idle_places(BARE, (), [])), (True, ()))

    def test_without_hours(self):
        net = (2, (("a", 1),), (), (("m", "a", ()), ("n", "a", (0, 1))))
        for rank in (("m", "n"), ("n", "m")):
            self.assertEqual(by_rank(net, (("a", 0, GREAT),), rank), (0, GREAT))
            self.assertEqual(idle_places(net, (("a", 0, GREAT),), rank), (0,))
            self.assertEqual(by_rank(net, (), rank), (0, 0))
        self.assertEqual((pushed(net, (("a", 0, 3),), "m", "n"), pushing_rank(net, (("a", 0, 3),), "n", "m")), (0, None))
        self.assertEqual((corners(net, ()), how_many_ranks(net, (), (0, 0)), rank_to(net, (), (0, 0))), (((0, 0),), 2, ("m", "n")))

    def test_takings_that_cannot_be(self):
        self.assertEqual((is_corner(NET, GOODS, (4, 4, 4)), rank_to(NET, GOODS, (GREAT, 0, 0)), how_many_ranks(NET, GOODS, (4, 2, 3))), (False, None, 0))


class Wrong(unittest.TestCase):
    def test_no_rank(self):
        for rank in ((), ("p",), ("p", "q"), ("p", "q", "q"), ("p", "q", "r", "r"), ("p", "q", "z"), ("p", "q", "r", "z"), ["q", "r"]):
            for call in (by_rank, idle_places):
                check_raises(self, OtherCustomers, {}, call, NET, GOODS, rank)
            check_raises(self, OtherCustomers, {}, by_rank_wished, NET, GOODS, (1, 1, 1), rank)
            check_raises(self, OtherCustomers, {}, weights_against, NET, GOODS, rank, (0, 0, 0))
            for good in (("p", "q", "r"), ["r", "q", "p"]):
                check_raises(self, OtherCustomers, {}, lead_alike, NET, GOODS, rank, good)
                check_raises(self, OtherCustomers, {}, lead_alike, NET, GOODS, good, rank)
        check_raises(self, OtherCustomers, {}, by_rank, BARE, (), ("a",))

    def test_no_customer(self):
        for name in ("z", "", "a", "P", "p q"):
            for call in (sure_share, most_share):
                check_raises(self, NoCustomer, {"name": name}, call, NET, GOODS, name)
            for place in (0, -1, 3, GREAT):
                for call in (sure_share_at, worst_rank_at):
                    check_raises(self, NoCustomer, {"name": name}, call, NET, GOODS, name, place)
            for call in (pushed, pushing_rank):
                check_raises(self, NoCustomer, {"name": name}, call, NET, GOODS, name, "y")
                check_raises(self, NoCustomer, {"name": name}, call, NET, GOODS, "p", name)
        check_raises(self, NoCustomer, {"name": "a"}, sure_share_at, BARE, (), "a", 0)
        check_raises(self, NoNumber, {"number": 3}, worst_rank_at, NET, GOODS, "q", 3)


if __name__ == "__main__":
    unittest.main()
