"""ROWS of requests one by one, against both ROWS answered anew and against all orders of short ROWS."""

import random
import unittest
from itertools import permutations

from helpers import answered, as_lists, check_raises, fits, lively_great, lively_nets, people

from freightrights.covers import can_be, covers
from freightrights.errors import CanNot, NoCustomer, NoNumber
from freightrights.nets import is_arrivals, is_net
from freightrights.rows import answers_to, gets_instead, gives_way, idle_asks, is_outcome, order_to, outcomes, parting_net, row_for
from freightrights.rows import row_serves

NET = (2, (("a", 1), ("b", 0)), (("l", "a", "b", 1, 2),), (("p", "a", (0, 1)), ("q", "b", (1,)), ("r", "b", (0, 1))))
GOODS = (("a", 0, 3), ("a", 1, 1), ("b", 0, 1))
ROW = ("q", "p", "p", "p", "q", "r", "p")
BARE = (1, (("a", 0),), (), ())
GREAT = 10 ** 30


def some_row(chance, net, most):
    return tuple(chance.choice(people(net)) for _ in range(chance.randint(0, most))) if people(net) else ()


def cases(seed, many, customers=4, most=10):
    """NETS, ARRIVALS, COVERS and a ROW of at most so many requests."""
    for at, (net, arrivals, book) in enumerate(lively_nets(seed, many, customers, 8, 7)):
        yield net, arrivals, book, some_row(random.Random(seed + at), net, most)


def asks(net, row):
    return tuple(row.count(name) for name in people(net))


class Answers(unittest.TestCase):
    def test_request_by_request(self):
        for net, arrivals, book, row in cases(5000, 120, 4, 14):
            answers, taking = answered(net, book, row)
            self.assertEqual(answers_to(net, arrivals, row), answers)
            self.assertEqual(row_serves(net, arrivals, row), taking)
            self.assertEqual(answers_to(as_lists(net), as_lists(arrivals), list(row)), answers)
            self.assertEqual(row_serves(as_lists(net), as_lists(arrivals), list(row)), taking)
            self.assertTrue(all(isinstance(answer, bool) for answer in answers_to(net, arrivals, row)))
            self.assertTrue(can_be(net, arrivals, taking))

    def test_long_rows(self):
        refused = 0
        for seed, (net, arrivals) in enumerate(lively_great(5100, 25)):
            book = dict(covers(net, arrivals))
            row = tuple(random.Random(seed).choice(people(net)) for _ in range(60)) if people(net) else ()
            answers, taking = answered(net, book, row)
            refused += False in answers
            self.assertEqual((answers_to(net, arrivals, row), row_serves(net, arrivals, row)), (answers, taking))
        self.assertGreater(refused, 5)

    def test_row_for(self):
        for net, arrivals, book, row in cases(5200, 60):
            _, taking = answered(net, book, row)
            found = row_for(net, arrivals, taking)
            self.assertEqual(found, tuple(sorted(found)))
            self.assertEqual(asks(net, found), taking)
            self.assertEqual(row_serves(net, arrivals, found), taking)
            for name in people(net):
                over = tuple(book[(name,)] + 1 if own == name else 0 for own in people(net))
                if sum(over) <= 60:
                    check_raises(self, CanNot, {}, row_for, net, arrivals, over)
        self.assertEqual(row_for(NET, GOODS, [0, 2, 1]), ("q", "q", "r"))
        self.assertEqual(row_for(NET, GOODS, [0, 0, 0]), ())
        check_raises(self, CanNot, {}, row_for, NET, GOODS, (0, GREAT, 0))


class Others(unittest.TestCase):
    def test_gets_instead(self):
        found = 0
        for net, arrivals, book, row in cases(5300, 80):
            now, _ = answered(net, book, row)
            for place in range(len(row)):
                then, _ = answered(net, book, row[:place] + row[place + 1:])
                then = then[:place] + (None,) + then[place:]
                turned = [at for at in range(len(row)) if at != place and then[at] != now[at]]
                self.assertTrue(len(turned) <= 1 and all(then[at] and at > place for at in turned))
                found += len(turned)
                self.assertEqual(gets_instead(net, arrivals, row, place), turned[0] if turned else None)
                self.assertEqual(gets_instead(as_lists(net), as_lists(arrivals), list(row), place), turned[0] if turned else None)
        self.assertGreater(found, 40)

    def test_gives_way(self):
        found = 0
        for net, arrivals, book, row in cases(5400, 80):
            now, _ = answered(net, book, row)
            for place in range(len(row) + 1):
                for name in people(net):
                    then, _ = answered(net, book, row[:place] + (name,) + row[place:])
                    then = then[:place] + then[place + 1:]
                    turned = [at for at in range(len(row)) if then[at] != now[at]]
                    self.assertTrue(len(turned) <= 1 and all(now[at] and at >= place for at in turned))
                    found += len(turned)
                    self.assertEqual(gives_way(net, arrivals, row, place, name), turned[0] if turned else None)
        self.assertGreater(found, 100)
        self.assertEqual(gives_way(as_lists(NET), as_lists(GOODS), list(ROW), 0, "q"), 3)
        self.assertIsNone(gives_way(NET, GOODS, ROW, len(ROW), "q"))

    def test_sooner(self):
        """A request that comes sooner brings its customer no less; all others lose one unit at the most."""
        for net, arrivals, book, row in cases(5500, 40):
            now = row_serves(net, arrivals, row)
            for place in range(len(row)):
                for sooner in range(place):
                    rest = row[:place] + row[place + 1:]
                    then = row_serves(net, arrivals, rest[:sooner] + (row[place],) + rest[sooner:])
                    at = people(net).index(row[place])
                    self.assertGreaterEqual(then[at], now[at])
                    self.assertLessEqual(sum(now) - now[at] - sum(then) + then[at], 1)


class Orders(unittest.TestCase):
    def test_all_orders(self):
        unlike = 0
        for net, arrivals, book, row in cases(5600, 90, 4, 6):
            served = {}
            for order in sorted(set(permutations(row))):
                served.setdefault(answered(net, book, order)[1], order)
            unlike += len(served) > 1
            self.assertEqual(outcomes(net, arrivals, row), tuple(sorted(served)))
            others = [tuple(number + 1 for number in taking) for taking in served] + [(0,) * len(people(net)), asks(net, row)]
            others += [taking[1:] + taking[:1] for taking in served]
            for taking in list(served) + others:
                self.assertIs(is_outcome(net, arrivals, row, taking), taking in served)
                self.assertEqual(order_to(net, arrivals, row, taking), served.get(taking))
                self.assertEqual(order_to(as_lists(net), as_lists(arrivals), list(row), list(taking)), served.get(taking))
                right = fits(net, book, taking) and all(n <= many for n, many in zip(taking, asks(net, row)))
                self.assertIs(taking in served, right and sum(taking) == sum(row_serves(net, arrivals, row)))
        self.assertGreater(unlike, 12)

    def test_longer_orders(self):
        for net, arrivals, book, row in cases(5700, 40, 5, 12):
            found = outcomes(net, arrivals, row)
            self.assertEqual(found, tuple(sorted(set(found))))
            self.assertIn(answered(net, book, row)[1], found)
            for taking in found[:4] + found[-2:]:
                order = order_to(net, arrivals, row, taking)
                self.assertEqual(sorted(order), sorted(row))
                self.assertEqual(answered(net, book, order)[1], taking)

    def test_sixty(self):
        for seed, (net, arrivals) in enumerate(lively_great(5800, 12)):
            chance = random.Random(seed)
            book = dict(covers(net, arrivals))
            row = some_row(chance, net, 60)
            mixed = chance.sample(row, len(row))
            taking = answered(net, book, mixed)[1]
            order = order_to(net, arrivals, row, taking)
            self.assertEqual(sorted(order), sorted(row))
            self.assertEqual(answered(net, book, order)[1], taking)
            self.assertLessEqual(order, tuple(mixed))
            self.assertIs(is_outcome(net, arrivals, row, taking), True)

    def test_idle_asks(self):
        found = 0
        for net, arrivals, book, row in cases(5900, 90, 4, 12):
            now = answered(net, book, row)[1]
            places = []
            for at in range(len(row) - 1):
                other = row[:at] + (row[at + 1], row[at]) + row[at + 2:]
                if row[at] != row[at + 1] and answered(net, book, other)[1] == now:
                    places.append(at)
            found += len([at for at in range(len(row) - 1) if row[at] != row[at + 1]]) > len(places)
            self.assertEqual(idle_asks(net, arrivals, row), tuple(places))
        self.assertGreater(found, 5)


class Parting(unittest.TestCase):
    def check_pair(self, one, other):
        pair = parting_net(one, other)
        if tuple(one) == tuple(other):
            self.assertIsNone(pair)
            return
        net, arrivals = pair
        self.assertIsInstance(pair, tuple)
        self.assertTrue(is_net(net) and is_arrivals(net, arrivals))
        self.assertEqual(people(net), tuple(sorted(set(one) | set(other))))
        self.assertNotEqual(row_serves(net, arrivals, one), row_serves(net, arrivals, other))

    def test_all_short_ones(self):
        rows = [()]
        for name in rows:
            if len(name) < 3:
                rows.extend([name + (more,) for more in "abc"])
        for one in rows:
            for other in rows:
                self.check_pair(one, other)

    def test_by_chance(self):
        chance = random.Random(6000)
        for many in (1, 2, 6):
            names = ["a", "bb", "ccc", "zzzzzzzz", "q", "m"][:many]
            for _ in range(40):
                one = tuple(chance.choice(names) for _ in range(chance.choice([5, 59, 60])))
                at = chance.randrange(len(one))
                self.check_pair(one, one)
                self.check_pair(one, one[:at] + (chance.choice(names),) + one[at + 1:])
                self.check_pair(one, one[:at])
                self.check_pair(one[:at], one)
                self.check_pair(list(one), one[:at] + one[at + 1:])
                self.check_pair(one, tuple(chance.sample(one, len(one))))
                self.check_pair(one, one[:at] + one[at + 1:at + 2] + one[at:at + 1] + one[at + 2:])

    def test_lists(self):
        self.assertIsNone(parting_net(["a", "b"], ("a", "b")))
        self.assertEqual(parting_net(["a", "b"], ["b", "a"]), parting_net(("a", "b"), ("b", "a")))
        self.assertIsNone(parting_net([], ()))


class Edges(unittest.TestCase):
    def test_nothing_asked(self):
        for net, arrivals in ((BARE, ()), (NET, GOODS), (NET, ())):
            nothing = (0,) * len(people(net))
            self.assertEqual((answers_to(net, arrivals, ()), row_serves(net, arrivals, []), idle_asks(net, arrivals, ())), ((), nothing, ()))
            self.assertEqual((outcomes(net, arrivals, ()), order_to(net, arrivals, (), nothing), is_outcome(net, arrivals, (), nothing)), ((nothing,), (), True))
        self.assertEqual(gives_way(NET, GOODS, (), 0, "p"), None)
        self.assertEqual((row_for(BARE, (), ()), order_to(NET, GOODS, (), (1, 0, 0))), ((), None))

    def test_great_amounts(self):
        net = (2, (("a", GREAT),), (), (("m", "a", ()), ("n", "a", (0, 1))))
        row = ("n", "m") * 30
        self.assertEqual(answers_to(net, (("a", 0, GREAT),), row), (True, False) * 30)
        self.assertEqual(outcomes(net, (("a", 0, GREAT),), row[:12]), ((0, 6),))
        self.assertEqual(order_to(net, (("a", 0, GREAT),), row, (0, 30)), ("m",) * 30 + ("n",) * 30)
        self.assertEqual(idle_asks(net, (("a", 0, GREAT),), row), tuple(range(59)))
        self.assertIs(is_outcome(NET, GOODS, ROW, (GREAT, 0, 0)), False)


class Wrong(unittest.TestCase):
    def test_no_customer(self):
        for row, first in ((("z",), "z"), (("p", "y", "z"), "y"), (["p", ""], ""), (("a",), "a"), (("p",) * 50 + ("P",), "P")):
            for call in (answers_to, row_serves, outcomes, idle_asks):
                check_raises(self, NoCustomer, {"name": first}, call, NET, GOODS, row)
            for call in (is_outcome, order_to):
                check_raises(self, NoCustomer, {"name": first}, call, NET, GOODS, row, (9, 9, 9))
            for place in (0, -1, GREAT):
                check_raises(self, NoCustomer, {"name": first}, gets_instead, NET, GOODS, row, place)
                check_raises(self, NoCustomer, {"name": first}, gives_way, NET, GOODS, row, place, "p")
                check_raises(self, NoCustomer, {"name": first}, gives_way, NET, GOODS, row, place, "x")
                check_raises(self, NoCustomer, {"name": "x"}, gives_way, NET, GOODS, ROW, place, "x")
        check_raises(self, NoCustomer, {"name": "a"}, answers_to, BARE, (), ("a",))

    def test_no_place(self):
        for place in (-1, -2, -GREAT, len(ROW) + 1, GREAT):
            check_raises(self, NoNumber, {"number": place}, gets_instead, NET, GOODS, ROW, place)
            check_raises(self, NoNumber, {"number": place}, gives_way, NET, GOODS, ROW, place, "p")
        check_raises(self, NoNumber, {"number": len(ROW)}, gets_instead, NET, GOODS, ROW, len(ROW))
        check_raises(self, NoNumber, {"number": 0}, gets_instead, NET, GOODS, (), 0)
        check_raises(self, NoNumber, {"number": 1}, gives_way, NET, GOODS, (), 1, "p")


if __name__ == "__main__":
    unittest.main()
