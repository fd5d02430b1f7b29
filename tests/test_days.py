"""Days that come one by one: TIES against all of them, and what they tell of ARRIVALS and WISHES."""

import random
import unittest
from itertools import permutations, product

from helpers import STRANGE, all_spots, as_lists, chance_net, check_raises, lively_nets, people, ranks, same, some_wishes, total_of

from freightrights.days import all_in_time, always_in_time, amount_known, are_two_arrivals, how_many_in_time, in_time, is_tie, known_to
from freightrights.days import last_hour, late_ones, rank_in_time, ranks_in_time, tie, tied, two_arrivals
from freightrights.errors import NoCustomer, NoYard, OtherCustomers
from freightrights.nets import customers_reached, is_arrivals, is_taking
from freightrights.rights import by_rank_wished

NET = (4, (("p", 0), ("q", 1), ("r", 1), ("s", 0), ("v", 0)),
       (("a", "q", "r", 2, 1), ("b", "p", "r", 3, 1), ("c", "p", "s", 3, 1), ("d", "v", "s", 1, 1)),
       (("j", "q", (1,)), ("r", "r", (3,)), ("s", "s", (3,))))
GATES = ("p", "q", "v")
RANK = ("s", "r", "j")
BARE = (1, (("a", 0),), (), ())
GREAT = 10 ** 30


def day_nets(seed, many, customers=4):
    """NETS of several hours with some of their yards, in which goods can come to several customers from some spot."""
    found = 0
    while found < many:
        net, arrivals = chance_net(seed, 5, 4, 6, customers)
        seed += 1
        chance = random.Random(seed)
        yards = tuple(name for name, _ in net[1] if chance.random() < 0.8)
        shared = any(len(customers_reached(net, *spot)) > 1 for spot in all_spots(net))
        if net[0] > 1 and (shared or seed % 12 == 0):
            found += 1
            yield net, arrivals, yards


def long_nets(seed, many):
    """NETS of many yards with few lines, customers with one hour or two: some of their TIES are long."""
    for at in range(seed, seed + many):
        chance = random.Random(at)
        hours = chance.randint(3, 4)
        yards = "pqrst"
        pairs = [(one, other) for one in yards for other in yards if one < other]
        lines = [(name,) + pair + (chance.choice([0, 1, 1, 2]), 1) for name, pair in zip("abcdefgh", sorted(chance.sample(pairs, 6)))]
        rows = [(name, chance.choice(yards), tuple(sorted({chance.randrange(hours), chance.randrange(hours)}))) for name in "jkmn"]
        rows = [row[:2] + (row[2][:chance.choice([1, 1, 2])],) for row in rows]
        yield (hours, tuple((name, chance.choice([0, 0, 0, 1])) for name in yards), tuple(lines), tuple(rows)), (), tuple(yards)


def last_of(net, name):
    own = [row[2] for row in net[3] if row[0] == name][0]
    return max(own) if own else None


def share(net, arrivals, wishes, rank, name):
    return total_of(net, by_rank_wished(net, arrivals, wishes, rank), (name,))


def till(arrivals, hour):
    return tuple(row for row in arrivals if row[1] <= hour)


def all_ties(net, yards, rank, name, most=5):
    """All TIES of at most so many customers, by going through all rows of better ones and of spots."""
    last = last_of(net, name)
    if last is None:
        return []
    spots = [spot for spot in all_spots(net) if spot[0] in yards]
    comes = {spot: set(customers_reached(net, *spot)) for spot in spots}
    better = rank[:rank.index(name)]
    rows = []
    for many in range(1, min(len(better), most - 1) + 1):
        for others in permutations(better, many):
            names = (name,) + others
            choices = [[spot for spot in spots if spot[1] <= last and set(names[at:at + 2]) <= comes[spot]] for at in range(many)]
            choices.append([spot for spot in spots if spot[1] > last and names[-1] in comes[spot]])
            for places in product(*choices):
                rows.append(tuple(part for pair in zip(names, places) for part in pair))
    return rows


class Known(unittest.TestCase):
    def test_last_hour_and_known(self):
        for net, arrivals, _ in day_nets(14000, 60):
            for name in people(net):
                self.assertEqual((last_hour(net, name), last_hour(as_lists(net), name)), (last_of(net, name),) * 2)
            for hour in (-5, -1, 0, 1, 2, 4, 7, GREAT):
                self.assertEqual((known_to(arrivals, hour), known_to(as_lists(arrivals), hour)), (till(arrivals, hour),) * 2)

    def test_shares(self):
        late_at_all = 0
        for net, arrivals, book in lively_nets(14100, 90, 4):
            chance = random.Random(repr(net))
            for wishes in [some_wishes(chance, net, book), (9,) * len(people(net))]:
                rank = tuple(chance.sample(people(net), len(people(net))))
                late = []
                for name in people(net):
                    last = last_of(net, name)
                    right = 0 if last is None else share(net, till(arrivals, last), wishes, rank, name)
                    self.assertEqual(amount_known(net, arrivals, wishes, rank, name), right)
                    self.assertEqual(amount_known(*as_lists((net, arrivals, wishes, rank)), name), right)
                    self.assertLessEqual(right, share(net, arrivals, wishes, rank, name))
                    late += [name] if right != share(net, arrivals, wishes, rank, name) else []
                late_at_all += bool(late)
                self.assertEqual(late_ones(net, arrivals, wishes, rank), tuple(late))
                self.assertEqual(late_ones(*as_lists((net, arrivals, wishes, rank))), tuple(late))
        self.assertGreater(late_at_all, 2)

    def test_great(self):
        net = (2, (("a", GREAT), ("b", 0)), (("x", "a", "b", 0, GREAT),), (("m", "a", (0,)), ("n", "b", (0, 1))))
        goods = (("a", 0, GREAT), ("b", 1, GREAT - 1))
        self.assertEqual(amount_known(net, goods, (GREAT, GREAT), ("n", "m"), "m"), 0)
        self.assertEqual(by_rank_wished(net, goods, (GREAT, GREAT), ("n", "m")), (GREAT - 1, GREAT))
        self.assertEqual((late_ones(net, goods, (GREAT, GREAT), ("n", "m")), late_ones(net, goods, (GREAT, GREAT), ("m", "n"))), (("m",), ()))


class Ties(unittest.TestCase):
    def test_all(self):
        long = set()
        for net, arrivals, yards in list(day_nets(14200, 60)) + list(long_nets(14200, 60)):
            chance = random.Random(repr(net))
            for rank in chance.sample(ranks(net), min(4, len(ranks(net)))):
                for name in rank:
                    rows = all_ties(net, yards, rank, name)
                    right = min(rows, key=lambda row: (len(row), row)) if rows else None
                    long.add(len(right) if right else 0)
                    self.assertEqual(tie(net, yards, rank, name), right)
                    self.assertEqual(tie(*as_lists((net, yards, rank)), name), right)
                    self.assertIs(in_time(net, yards, rank, name), right is None)
                    self.assertIs(in_time(*as_lists((net, yards, rank)), name), right is None)
                    for row in rows[:6] + rows[-2:]:
                        self.assertIs(is_tie(net, yards, rank, name, row), True)
                        self.assertIs(is_tie(*as_lists((net, yards, rank)), name, row), True)
                        self.check_changed(chance, net, yards, rank, name, row, set(rows))
                self.assertIs(all_in_time(net, yards, rank), all(in_time(net, yards, rank, name) for name in rank))
                self.assertIs(all_in_time(*as_lists((net, yards, rank))), all(in_time(net, yards, rank, name) for name in rank))
        self.assertLessEqual({0, 4, 6}, long)

    def check_changed(self, chance, net, yards, rank, name, row, known):
        """With another name or spot somewhere it is a TIE only if it is one of those known."""
        for _ in range(6):
            at = chance.randrange(len(row))
            part = chance.choice(people(net)) if at // 2 * 2 == at else chance.choice(all_spots(net))
            other = row[:at] + (part,) + row[at + 1:]
            self.assertIs(is_tie(net, yards, rank, name, other), other in known)
        self.assertIs(is_tie(net, yards, rank, name, row[:-1]), False)
        self.assertIs(is_tie(net, yards, rank, name, row[:-2]), row[:-2] in known)
        self.assertIs(is_tie(net, yards, rank, name, list(row)), False)
        self.assertIs(is_tie(net, yards, rank, name, row + row[-1:]), False)

    def test_tied(self):
        found = 0
        for net, arrivals, yards in list(day_nets(14300, 60, 5)) + list(long_nets(14300, 60)):
            chance = random.Random(repr(net))
            rank = tuple(chance.sample(people(net), len(people(net))))
            for at, name in enumerate(rank):
                last = last_of(net, name)
                comes = [set(customers_reached(net, *spot)) for spot in all_spots(net) if spot[0] in yards and last is not None and spot[1] <= last]
                group = {name}
                for _ in rank:
                    for row in comes:
                        if group & row:
                            group |= row & set(rank[:at])
                right = tuple(sorted(group - {name}))
                found += len(right) > 1
                self.assertEqual(tied(net, yards, rank, name), right)
                self.assertEqual(tied(*as_lists((net, yards, rank)), name), right)
        self.assertGreater(found, 15)

    def test_a_tie_goes_on_to_the_tied(self):
        for net, arrivals, yards in day_nets(14400, 60):
            for rank in ranks(net)[:4]:
                for name in rank:
                    row = tie(net, yards, rank, name)
                    self.assertTrue(row is None or set(row[2::2]) <= set(tied(net, yards, rank, name)))

    def test_one_sentence_broken(self):
        right = ("j", ("q", 0), "r", ("p", 0), "s", ("v", 2))
        self.assertEqual(tie(NET, GATES, RANK, "j"), right)
        wrong = [("j", ("q", 2), "r", ("p", 0), "s", ("v", 2)), ("j", ("q", 0), "r", ("p", 1), "s", ("v", 2)), ("j", ("q", 0), "r", ("p", 0), "s", ("v", 1)),
                 ("j", ("q", 0), "s", ("p", 0), "r", ("v", 2)), ("r", ("q", 0), "j", ("p", 0), "s", ("v", 2)), ("j", ("q", 0), "r", ("p", 0), "s"),
                 ("j", ("q", 0), "r", ("p", 0), "s", ("v", 3)), ("j", ("q", 0), "r", ("p", 0), "s", ("s", 3)), ("j", ["q", 0], "r", ("p", 0), "s", ("v", 2)),
                 ("j", ("q", False), "r", ("p", 0), "s", ("v", 2)), ("j", ("q", 0), "r", ("p", 0), "r", ("v", 2)), ("j", ("v", 2)), ("j", ("q", 0)), (),
                 ("j", ("q", 0), "z", ("p", 0), "s", ("v", 2)), ("j", ("q", 0), None, ("p", 0), "s", ("v", 2)), ("j", ("q", 0), "r", ("p", 0), "s", ("v", 4)),
                 ("j", ("q", 0), "r", ("p", 0), "s", ("v", -1)), ("j", ("q", 0), "r", ("p", 0), "s", "v"), (("q", 0), "j", ("p", 0), "r", ("v", 2), "s"),
                 ("j", ("q", 0), "r", ("r", 2)), ("j", ("q", 0), ["r"], ("p", 0), "s", ("v", 2)), ("j", ("q", 0, 0), "r", ("p", 0), "s", ("v", 2)),
                 ("j", ("q", 0), "j", ("q", 0), "r", ("p", 0), "s", ("v", 2))]
        self.assertIs(is_tie(NET, GATES, RANK, "j", right), True)
        for thing in wrong:
            self.assertIs(is_tie(NET, GATES, RANK, "j", thing), False, thing)
        self.assertIs(is_tie(NET, ("p", "v"), RANK, "j", right), False)
        self.assertIs(is_tie(NET, GATES, ("s", "j", "r"), "j", right), False)
        self.assertIs(is_tie(NET, GATES, ("r", "s", "j"), "j", right), True)
        for thing in STRANGE:
            self.assertIs(is_tie(NET, GATES, RANK, "j", thing), False)
            for at in range(6):
                self.assertIs(is_tie(NET, GATES, RANK, "j", right[:at] + (thing,) + right[at + 1:]), False)
            self.assertIs(is_tie(NET, GATES, RANK, "j", right[:1] + ((thing, 0),) + right[2:]), thing == "q")
            self.assertIs(is_tie(NET, GATES, RANK, "j", right[:1] + (("q", thing),) + right[2:]), same(thing, 0) or same(thing, 1))

    def test_long_chain(self):
        """Each customer shares a yard with the next one; only the last one takes late."""
        for many in range(2, 7):
            ends = ["y" + sign for sign in "abcdef"[:many]]
            sources = ["s" + sign for sign in "abcdef"[:many]]
            lines = [("k" + sign, "s" + sign, "y" + sign, 0, 1) for sign in "abcdef"[:many]]
            lines += [("n" + sign, "s" + sign, "y" + other, 1 if at == many - 2 else 0, 1) for at, (sign, other) in enumerate(zip("abcdef"[:many], "bcdef"))][:many - 1]
            customers = tuple(("c" + sign, "y" + sign, (1,) if at == many - 1 else (0,)) for at, sign in enumerate("abcdef"[:many]))
            net = (2, tuple((name, 0) for name in sorted(ends + sources)), tuple(sorted(lines)), customers)
            names, yards = people(net), tuple(sources)
            row = []
            for at, name in enumerate(names):
                row += [name, (sources[at], 1 if at == many - 1 else 0)]
            for rank in (names[::-1], names[1:] + names[:1]):
                self.assertEqual(tie(net, yards, rank, "ca"), tuple(row))
                self.assertIs(is_tie(net, yards, rank, "ca", tuple(row)), True)
                self.assertEqual(tied(net, yards, rank, "ca"), names[1:])
                two = two_arrivals(net, yards, rank, "ca")
                self.assertIs(are_two_arrivals(net, yards, rank, "ca", two), True)
                self.assertEqual((len(two[1]), len(two[2]), two[0]), (many - 1, many, (1,) * many))
                for name in names[1:]:
                    self.assertIsNone(tie(net, yards, tuple(part for part in rank if part != name) + (name,), "ca"))

    def test_least_of_several(self):
        """Two spots, two better customers, two spots late: the least of each."""
        net = (3, (("a", 0), ("b", 0)), (("x", "a", "b", 0, 1), ("y", "a", "b", 1, 1), ("z", "a", "b", 2, 1)), (("m", "b", (1,)), ("n", "b", (0, 1, 2)), ("o", "b", (1, 2))))
        self.assertEqual(tie(net, ("a", "b"), ("o", "n", "m"), "m"), ("m", ("a", 0), "n", ("a", 2)))
        self.assertEqual(tie(net, ("b",), ("o", "n", "m"), "m"), ("m", ("b", 1), "n", ("b", 2)))
        self.assertEqual(tie(net, ("a", "b"), ("o", "m", "n"), "m"), ("m", ("a", 0), "o", ("a", 2)))
        self.assertIsNone(tie(net, ("a", "b"), ("m", "o", "n"), "m"))
        self.assertIsNone(tie(net, (), ("o", "n", "m"), "m"))


class Ranks(unittest.TestCase):
    def test_all_ranks(self):
        some, none = 0, 0
        for net, arrivals, yards in list(day_nets(14500, 40)) + list(long_nets(14500, 20)):
            right = [rank for rank in sorted(ranks(net)) if all(tie(net, yards, rank, name) is None for name in rank)]
            some += 0 < len(right) < len(ranks(net))
            none += len(right) == len(ranks(net))
            self.assertEqual(ranks_in_time(net, yards), right)
            self.assertEqual(ranks_in_time(as_lists(net), list(yards)), right)
            self.assertEqual((how_many_in_time(net, yards), rank_in_time(net, yards)), (len(right), right[0]))
            self.assertEqual((how_many_in_time(as_lists(net), list(yards)), rank_in_time(as_lists(net), list(yards))), (len(right), right[0]))
            for name in people(net):
                always = all(tie(net, yards, rank, name) is None for rank in ranks(net))
                self.assertIs(always_in_time(net, yards, name), always)
                self.assertIs(always_in_time(as_lists(net), list(yards), name), always)
        self.assertGreater(some, 20)
        self.assertGreater(none, 5)

    def test_six_customers(self):
        for net, arrivals, yards in day_nets(14600, 12, 6):
            least = rank_in_time(net, yards)
            self.assertTrue(all_in_time(net, yards, least))
            many = 0
            for rank in sorted(ranks(net))[::7]:
                good = all_in_time(net, yards, rank)
                many += good
                self.assertFalse(good and rank < least)
            self.assertGreaterEqual(how_many_in_time(net, yards), many)


class TwoArrivals(unittest.TestCase):
    def test_judged(self):
        found, none = 0, 0
        for net, arrivals, yards in list(day_nets(14700, 80)) + list(long_nets(14700, 120)):
            chance = random.Random(repr(net))
            for rank in chance.sample(ranks(net), min(4, len(ranks(net)))):
                for name in rank:
                    row = two_arrivals(net, yards, rank, name)
                    self.assertEqual(two_arrivals(*as_lists((net, yards, rank)), name), row)
                    self.assertEqual(row is None, tie(net, yards, rank, name) is None)
                    none += row is None
                    if row is not None:
                        found += 1
                        self.check_row(net, yards, rank, name, row)
        self.assertGreater(found, 100)
        self.assertGreater(none, 100)

    def check_row(self, net, yards, rank, name, row):
        wishes, one, other = row
        self.assertTrue(is_taking(net, wishes) and is_arrivals(net, one) and is_arrivals(net, other))
        self.assertTrue(all(part[0] in yards for part in one + other))
        self.assertEqual(till(one, last_of(net, name)), till(other, last_of(net, name)))
        self.assertNotEqual(share(net, one, wishes, rank, name), share(net, other, wishes, rank, name))
        self.assertIs(are_two_arrivals(net, yards, rank, name, row), True)
        self.assertIs(are_two_arrivals(*as_lists((net, yards, rank)), name, row), True)
        self.assertIs(are_two_arrivals(net, yards, rank, name, (wishes, other, one)), True)
        self.assertIs(are_two_arrivals(net, yards, rank, name, (wishes, one, one)), False)
        self.assertIs(are_two_arrivals(net, yards, rank, name, list(row)), False)
        without = tuple(yard for yard in yards if yard != one[0][0])
        self.assertIs(are_two_arrivals(net, without, rank, name, row), False)

    def test_without_a_tie_nothing_tells(self):
        """FOR ALL ARRIVALS at these yards by chance, and WISHES by chance, who is in time has what is known."""
        tried, late = 0, 0
        for net, arrivals, yards in list(day_nets(14800, 40)) + list(long_nets(14800, 60)):
            chance = random.Random(repr(net))
            spots = [spot for spot in all_spots(net) if spot[0] in yards]
            for rank in chance.sample(ranks(net), min(2, len(ranks(net)))):
                for _ in range(5):
                    goods = tuple(spot + (chance.choice([1, 1, 2, 3, 9]),) for spot in spots if chance.random() < 0.5)
                    wishes = tuple(chance.choice([0, 1, 1, 2, 5]) for _ in people(net))
                    for name in late_ones(net, goods, wishes, rank):
                        late += 1
                        self.assertIs(in_time(net, yards, rank, name), False)
                        last = last_of(net, name)
                        self.assertIs(are_two_arrivals(net, yards, rank, name, (wishes, till(goods, last), goods)), True)
                    tried += 1
        self.assertGreater(late, 5)

    def test_things(self):
        one, other = (("p", 0, 1), ("q", 0, 1)), (("p", 0, 1), ("q", 0, 1), ("v", 2, 1))
        right = ((1, 1, 1), one, other)
        self.assertIs(are_two_arrivals(NET, GATES, RANK, "j", right), True)
        for thing in (list(right), (list(right[0]), one, other), (right[0], list(one), other), (right[0], one), right + (1,), ((1, 1), one, other), ((1, True, 1), one, other),
                      ((1, 1, -1), one, other), ((1, 1, 1), other[::-1], one), ((0, 1, 1), one, other), ((1, 1, 0), one, other), ((1, 1, 1), (("p", 0, 1),), other),
                      ((1, 1, 1), one, other + (("v", 4, 1),)), ((1, 1, 1), one, other[:2] + (("v", 1, 1),)), ((1, 1, 1), one, other[:2] + (("s", 3, 1),)),
                      ((1, 1, 1), one, other[:2] + (("v", 2, 0),)), ((1, 1, 1), one, other[:2] + (("v", True, 1),)), ((1, 1, 1), one, one)):
            self.assertIs(are_two_arrivals(NET, GATES, RANK, "j", thing), False, thing)
        self.assertIs(are_two_arrivals(NET, GATES + ("z",)[:0], RANK, "r", right), False)
        self.assertIs(are_two_arrivals(NET, ("p", "q", "s", "v"), RANK, "j", ((1, 1, 1), one, one + (("s", 3, 1),))), True)
        for thing in STRANGE:
            self.assertIs(are_two_arrivals(NET, GATES, RANK, "j", thing), False)
            for at in range(3):
                self.assertIs(are_two_arrivals(NET, GATES, RANK, "j", right[:at] + (thing,) + right[at + 1:]), False)
        self.assertIs(are_two_arrivals(NET, GATES, RANK, "j", ((GREAT, 1, 1), one, other)), True)

    def test_shared_ways(self):
        """Units of a TIE pass lines that bear one: a shortest one has ways that are not in the way of each other."""
        net = (3, (("a", 1), ("b", 1), ("c", 1), ("d", 1)), (("k", "a", "b", 0, 1), ("l", "b", "c", 0, 1), ("m", "b", "d", 1, 1)),
               (("m", "b", (0,)), ("n", "c", (0, 1)), ("o", "d", (1, 2)), ("p", "c", (2,))))
        found = 0
        for rank in ranks(net):
            for name in rank:
                row = two_arrivals(net, ("a", "b", "c", "d"), rank, name)
                if row is not None:
                    found += 1
                    self.check_row(net, ("a", "b", "c", "d"), rank, name, row)
        self.assertGreater(found, 10)


class Edges(unittest.TestCase):
    def test_nobody(self):
        self.assertEqual((late_ones(BARE, (), (), ()), all_in_time(BARE, ("a",), ()), how_many_in_time(BARE, ("a",))), ((), True, 1))
        self.assertEqual((rank_in_time(BARE, ("a",)), ranks_in_time(BARE, ("a",)), rank_in_time(BARE, ()), ranks_in_time(BARE, ())), ((), [()], (), [()]))

    def test_no_hours(self):
        net = (2, (("a", 1),), (), (("m", "a", ()), ("n", "a", (0, 1))))
        rank, yards = ("n", "m"), ("a",)
        self.assertEqual((last_hour(net, "m"), amount_known(net, (("a", 0, 3),), (3, 3), rank, "m"), late_ones(net, (("a", 0, 3),), (3, 3), rank)), (None, 0, ()))
        self.assertEqual((tie(net, yards, rank, "m"), tied(net, yards, rank, "m"), in_time(net, yards, rank, "m"), two_arrivals(net, yards, rank, "m")), (None, (), True, None))
        self.assertEqual((always_in_time(net, yards, "m"), always_in_time(net, yards, "n"), how_many_in_time(net, yards)), (True, True, 2))
        self.assertIs(are_two_arrivals(net, yards, rank, "m", ((1, 1), (), (("a", 1, 1),))), False)
        self.assertIs(is_tie(net, yards, rank, "m", ("m", ("a", 0), "n", ("a", 1))), False)
        self.assertEqual(tied(net, yards, ("m", "n"), "n"), ())

    def test_no_yards(self):
        for rank in ranks(NET):
            self.assertIs(all_in_time(NET, (), rank), True)
            self.assertEqual((tie(NET, (), rank, "j"), tied(NET, (), rank, "j"), two_arrivals(NET, (), rank, "j")), (None, (), None))
        self.assertEqual((how_many_in_time(NET, ()), rank_in_time(NET, ()), len(ranks_in_time(NET, []))), (6, ("j", "r", "s"), 6))
        self.assertIs(is_tie(NET, (), RANK, "j", ("j", ("q", 0), "r", ("p", 0), "s", ("v", 2))), False)

    def test_first_and_last_hour(self):
        """Who takes in the last hour is in time; who takes in the first one alone may be in nobody's way."""
        net = (2, (("a", 1),), (), (("m", "a", (0,)), ("n", "a", (0, 1)), ("o", "a", (1,))))
        self.assertEqual((tie(net, ("a",), ("o", "n", "m"), "m"), tie(net, ("a",), ("n", "m", "o"), "o")), (("m", ("a", 0), "n", ("a", 1)), None))
        self.assertEqual((tied(net, ("a",), ("o", "n", "m"), "m"), tied(net, ("a",), ("o", "n", "m"), "n")), (("n", "o"), ("o",)))
        self.assertEqual(two_arrivals(net, ("a",), ("o", "n", "m"), "m"), ((1, 1, 0), (("a", 0, 1),), (("a", 0, 1), ("a", 1, 1))))


class Wrong(unittest.TestCase):
    def test_order(self):
        with_customer = (tie, tied, in_time, two_arrivals)
        for yards, first in ((("z",), "z"), (("p", "z"), "z"), (("", "z"), ""), (("j", "p"), "j"), (["P"], "P")):
            for rank in (RANK, ("s",), ("s", "r", "z")):
                for name in ("j", "z"):
                    for call in with_customer:
                        check_raises(self, NoYard, {"name": first}, call, NET, yards, rank, name)
                    check_raises(self, NoYard, {"name": first}, always_in_time, NET, yards, name)
                    for thing in STRANGE[::6]:
                        check_raises(self, NoYard, {"name": first}, is_tie, NET, yards, rank, name, thing)
                        check_raises(self, NoYard, {"name": first}, are_two_arrivals, NET, yards, rank, name, thing)
                check_raises(self, NoYard, {"name": first}, all_in_time, NET, yards, rank)
            for call in (how_many_in_time, rank_in_time, ranks_in_time):
                check_raises(self, NoYard, {"name": first}, call, NET, yards)
        for rank in (("s", "r"), ("s", "r", "j", "j"), ("s", "r", "z"), (), ["s", "s", "j"]):
            for name in ("j", "z"):
                for call in with_customer:
                    check_raises(self, OtherCustomers, {}, call, NET, GATES, rank, name)
                for thing in STRANGE[::6]:
                    check_raises(self, OtherCustomers, {}, is_tie, NET, GATES, rank, name, thing)
                    check_raises(self, OtherCustomers, {}, are_two_arrivals, NET, GATES, rank, name, thing)
                check_raises(self, OtherCustomers, {}, amount_known, NET, (), (1, 1, 1), rank, name)
            check_raises(self, OtherCustomers, {}, all_in_time, NET, GATES, rank)
            check_raises(self, OtherCustomers, {}, late_ones, NET, (), (1, 1, 1), rank)
        for name in ("z", "", "p", "a", "J"):
            for call in with_customer:
                check_raises(self, NoCustomer, {"name": name}, call, NET, GATES, RANK, name)
            for thing in STRANGE[::6]:
                check_raises(self, NoCustomer, {"name": name}, is_tie, NET, GATES, RANK, name, thing)
                check_raises(self, NoCustomer, {"name": name}, are_two_arrivals, NET, GATES, RANK, name, thing)
            check_raises(self, NoCustomer, {"name": name}, amount_known, NET, (), (1, 1, 1), RANK, name)
            check_raises(self, NoCustomer, {"name": name}, always_in_time, NET, GATES, name)
            check_raises(self, NoCustomer, {"name": name}, last_hour, NET, name)


if __name__ == "__main__":
    unittest.main()
