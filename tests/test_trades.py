"""TRADES against all TAKINGS of small NETS, rows of TRADES step by step, prices, lots."""

import random
import unittest

from helpers import STRANGE, as_lists, changed, check_raises, fits, lively_great, parts, people, shares, lively_nets, lively_takings
from helpers import total_of

from freightrights.covers import can_be, covers
from freightrights.errors import CanNot, NoCustomer
from freightrights.fulls import is_full
from freightrights.trades import always_trades, behind_trade, best_chain, better_trade, is_best, is_trade, is_trade_row, lots_apart
from freightrights.trades import trade_most, trade_row, trades_from, units_between

NET = (1, (("x", 0), ("y", 0)), (("l", "x", "y", 0, 1),), (("a", "x", (0,)), ("b", "y", (0,))))
GOODS = (("x", 0, 2),)
GREAT = 10 ** 30


def behind(net, taking, trade):
    """What all have behind a TRADE, whether it can be or not."""
    giver, taker, amount = trade
    if giver != "":
        taking = changed(net, taking, giver, -amount)
    if taker != "":
        taking = changed(net, taking, taker, amount)
    return taking


def pairs(net):
    names = people(net) + ("",)
    return [(giver, taker) for giver in names for taker in names if giver != taker]


def good_row(net, possible, one, other, row):
    """Whether this row of triples leads from one to other by TRADES that can be, of so few units as can be."""
    taking, units = one, 0
    for trade in row:
        if trade[2] < 1 or trade[:2] not in pairs(net):
            return False
        taking = behind(net, taking, trade)
        units += trade[2]
        if not possible(taking):
            return False
    ups = sum(max(0, new - old) for old, new in zip(one, other))
    downs = sum(max(0, old - new) for old, new in zip(one, other))
    return taking == other and units == max(ups, downs)


class Trades(unittest.TestCase):
    def test_one_by_one(self):
        for net, arrivals, book, takings in lively_takings(3000, 60):
            for taking in takings:
                units = []
                for giver, taker in pairs(net):
                    most = 0
                    for amount in range(1, 7):
                        trade = (giver, taker, amount)
                        right = behind(net, taking, trade) in takings
                        self.assertIs(is_trade(net, arrivals, taking, trade), right)
                        if right:
                            most = amount
                            self.assertEqual(behind_trade(net, arrivals, taking, trade), behind(net, taking, trade))
                        else:
                            check_raises(self, CanNot, {}, behind_trade, net, arrivals, taking, trade)
                    if most < 6:
                        self.assertEqual(trade_most(net, arrivals, taking, giver, taker), most)
                    if most:
                        units.append((giver, taker, 1))
                self.assertEqual(trades_from(net, arrivals, taking), sorted(units))

    def test_most_of_great_amounts(self):
        for seed, (net, arrivals) in enumerate(lively_great(3100, 30)):
            book = dict(covers(net, arrivals))
            chance = random.Random(seed)
            for _ in range(2):
                rank = chance.sample(people(net), len(people(net)))
                taking = tuple(number - chance.choice([0, 0, number // 2, number // 3]) for number in shares(net, book, rank))
                for giver, taker in pairs(net):
                    left = [book[some] - total_of(net, taking, some) for some in book if taker in some and giver not in some]
                    left = left + ([total_of(net, taking, (giver,))] if giver else [])
                    self.assertEqual(trade_most(net, arrivals, taking, giver, taker), min(left))
                    if min(left) > 0:
                        self.assertIs(is_trade(net, arrivals, taking, (giver, taker, min(left))), True)
                        self.assertTrue(can_be(net, arrivals, behind_trade(net, arrivals, taking, (giver, taker, min(left)))))
                    self.assertIs(is_trade(net, arrivals, taking, (giver, taker, min(left) + 1)), False)

    def test_things(self):
        for trade in (("a", "b", 1), ("a", "b", 2), ("b", "a", 1), ("", "a", 1), ("", "b", 1), ("a", "", 1), ("b", "", 2)):
            taking = {"a": (1, 1), "b": (1, 1)}.get(trade[0], (1, 0))
            self.assertIs(is_trade(NET, GOODS, taking, trade), trade not in (("a", "b", 1), ("a", "b", 2), ("b", "", 2)), trade)
        for thing in (("a", "a", 1), ("", "", 1), ("a", "z", 1), ("z", "a", 1), ("a", "x", 1), ("b", "a", 0), ("b", "a", True), ("b", "a", -1),
                      ["b", "a", 1], ("b", "a"), ("b", "a", 1, 1), ("b", "a", (1,)), (("b",), "a", 1), ("b", None, 1), ("b", ["a"], 1),
                      ("b", "a", 2), ("b", "a", None), ("b", "a", "1"), (0, "a", 1), ("ba", "a", 1), ("b", "a", 10 ** 5000), ("", "a", 1)):
            self.assertIs(is_trade(NET, GOODS, (1, 1), thing), False, thing)
        for thing in STRANGE:
            self.assertIs(is_trade(NET, GOODS, (1, 1), thing), False)
            self.assertIs(is_trade(NET, GOODS, (1, 1), ("b", "a", thing)), thing is not True and thing == 1)
            self.assertIs(is_trade(NET, GOODS, (1, 1), ("b", thing, 1)), thing in ("a", "") and isinstance(thing, str))
            self.assertIs(is_trade(NET, GOODS, (1, 0), (thing, "b", 1)), thing in ("a", "") and isinstance(thing, str))
        self.assertIs(is_trade(as_lists(NET), as_lists(GOODS), [1, 1], ("b", "a", 1)), True)


class Rows(unittest.TestCase):
    def test_all_pairs(self):
        for net, arrivals, book, takings in lively_takings(3200, 45, 3, 24):
            for one in takings:
                far = {one: 0}
                ahead = [one]
                for taking in ahead:
                    for giver, taker in pairs(net):
                        new = behind(net, taking, (giver, taker, 1))
                        if new in takings and new not in far:
                            far[new] = far[taking] + 1
                            ahead.append(new)
                for other in takings:
                    self.assertEqual(units_between(net, arrivals, one, other), far[other])
                    row = trade_row(net, arrivals, one, other)
                    self.assertIsInstance(row, tuple)
                    self.assertLessEqual(len(row), 42)
                    self.assertTrue(good_row(net, lambda taking: taking in takings, one, other, row), (net, arrivals, one, other, row))
                    self.assertIs(is_trade_row(net, arrivals, one, other, row), True)

    def test_judging(self):
        asked = 0
        for seed, (net, arrivals, book, takings) in enumerate(lively_takings(3300, 60, 3, 40)):
            chance = random.Random(seed)
            for _ in range(20):
                one, other = chance.choice(takings), chance.choice(takings)
                row = list(trade_row(net, arrivals, one, other))
                singles = [trade[:2] + (1,) for trade in row for _ in range(trade[2])]
                chance.shuffle(row)
                chance.shuffle(singles)
                more = [row + [("ax", "", 1), ("", "ax", 1)], row[1:], row * 2]
                more.append([(taker, giver, amount) for giver, taker, amount in row])
                more.append([trade[:2] + (trade[2] + 1,) for trade in row])
                for found in [row, singles] + more:
                    right = good_row(net, lambda taking: taking in takings, one, other, found)
                    asked += right
                    self.assertIs(is_trade_row(net, arrivals, one, other, tuple(found)), right)
                    self.assertIs(is_trade_row(net, arrivals, one, other, found), False)
                    self.assertIs(is_trade_row(net, arrivals, one, other, tuple(list(trade) for trade in found)), right and not found)
        self.assertGreater(asked, 500)

    def test_other_pairs(self):
        """Rows of so few units that lead there, with givers and takers put together by chance."""
        rights, wrongs = 0, 0
        for seed, (net, arrivals, book, takings) in enumerate(lively_takings(3350, 60, 5, 200)):
            chance = random.Random(seed)
            tops = [taking for taking in takings if sum(taking) + 1 >= book[people(net)]]
            for _ in range(40):
                one, other = chance.choice(tops), chance.choice(tops)
                gives = [name for name, old, new in zip(people(net), one, other) for _ in range(old - new)]
                gets = [name for name, old, new in zip(people(net), one, other) for _ in range(new - old)]
                gives += [""] * (len(gets) - len(gives))
                gets += [""] * (len(gives) - len(gets))
                row = tuple((giver, taker, 1) for giver, taker in zip(chance.sample(gives, len(gives)), chance.sample(gets, len(gets))))
                right = good_row(net, lambda taking: taking in takings, one, other, row)
                rights, wrongs = rights + right, wrongs + (not right)
                self.assertIs(is_trade_row(net, arrivals, one, other, row), right)
        self.assertGreater(min(rights, wrongs), 40)

    def test_who_cannot_give_to_whom(self):
        net = (1, (("x", 0), ("y", 0)), (), (("a", "x", (0,)), ("b", "y", (0,)), ("c", "y", (0,)), ("d", "x", (0,))))
        goods = (("x", 0, 1), ("y", 0, 1))
        row = trade_row(net, goods, (1, 1, 0, 0), (0, 0, 1, 1))
        self.assertEqual(sorted(row), [("a", "d", 1), ("b", "c", 1)])
        for thing, right in ((row, True), (row[::-1], True), ((("a", "c", 1), ("b", "d", 1)), False), ((("a", "", 1), ("", "d", 1), ("b", "c", 1)), False)):
            self.assertIs(is_trade_row(net, goods, (1, 1, 0, 0), (0, 0, 1, 1), thing), right)
        self.assertIs(is_trade_row(net, goods, (1, 0, 0, 0), (0, 1, 0, 0), (("a", "b", 1),)), True)
        self.assertIs(is_trade_row(net, goods, (1, 0, 0, 0), (0, 0, 0, 1), (("", "d", 1), ("a", "", 1))), False)

    def test_great(self):
        longest = 0
        for seed, (net, arrivals) in enumerate(lively_great(3400, 60)):
            chance = random.Random(seed)
            book = dict(covers(net, arrivals))
            tops = [shares(net, book, chance.sample(people(net), len(people(net)))) for _ in range(2)]
            tops.append(tuple(number // 2 for number in tops[0]))
            tops.append(tuple(max(0, number - 1) for number in tops[1]))
            tops.append((0,) * len(people(net)))
            for one in tops:
                for other in tops:
                    row = trade_row(net, arrivals, one, other)
                    longest = max(longest, len(row))
                    self.assertLessEqual(len(row), 42)
                    self.assertTrue(good_row(net, lambda taking: min(taking + (0,)) == 0 and fits(net, book, taking), one, other, row))
                    self.assertIs(is_trade_row(net, arrivals, one, other, row), True)
                    self.assertEqual(units_between(net, arrivals, one, other), sum(trade[2] for trade in row))
        self.assertGreater(longest, 4)

    def test_three_hubs(self):
        """Each giver has its own way to a taker; the hubs between are open to all."""
        names = "abcdef"
        yards = tuple((name, 0) for name in names + "hk")
        lines = tuple(sorted((start + goal, start, goal, 0, GREAT) for start in "hk" for goal in names))
        net = (1, yards, lines, tuple((name, name, (0,)) for name in names))
        goods = (("h", 0, GREAT), ("k", 0, GREAT))
        one, other = (GREAT, GREAT, 0, 0, 0, 0), (0, 1, GREAT // 2, GREAT // 2, 3, 5)
        row = trade_row(net, goods, one, other)
        self.assertEqual(units_between(net, goods, one, other), 2 * GREAT - 1)
        for found in (row, row[::-1], row[1:] + row[:1]):
            right = good_row(net, lambda taking: min(taking) >= 0 and can_be(net, goods, taking), one, other, found)
            self.assertIs(is_trade_row(net, goods, one, other, found), right)
            self.assertIs(right or found != row, True)

    def test_things(self):
        self.assertIs(is_trade_row(NET, GOODS, (2, 0), (1, 1), (("a", "b", 1),)), True)
        self.assertIs(is_trade_row(NET, GOODS, (2, 0), (0, 1), (("a", "", 1), ("a", "b", 1))), True)
        for thing in ((("a", "", 1), ("", "b", 1)), (("", "b", 1), ("a", "", 1)), (["a", "b", 1],), [("a", "b", 1)], ("a", "b", 1), (("a", "b", True),),
                      (("a", "b", 1), ()), (("a", "b", 0), ("a", "b", 1)), (("a", "b", 2),), (("a", "z", 1),), (("a", "", 1),), ()):
            self.assertIs(is_trade_row(NET, GOODS, (2, 0), (1, 1), thing), False, thing)
        for thing in STRANGE:
            self.assertIs(is_trade_row(NET, GOODS, (1, 1), (1, 1), thing), isinstance(thing, tuple) and thing == ())
            self.assertIs(is_trade_row(NET, GOODS, (2, 0), (1, 1), thing), False)
            self.assertIs(is_trade_row(NET, GOODS, (2, 0), (1, 1), (thing,)), False)
        self.assertEqual(trade_row(NET, GOODS, (1, 1), (1, 1)), ())
        self.assertIs(is_trade_row(NET, GOODS, (2, 0), (0, 0), (("a", "", 1),) * 2), True)
        self.assertIs(is_trade_row(NET, GOODS, (2, 0), (0, 0), (("a", "", 1),) * 3000), False)


class Prices(unittest.TestCase):
    def test_all_takings(self):
        for seed, (net, arrivals, book, takings) in enumerate(lively_takings(3500, 45, 3, 40)):
            chance = random.Random(seed)
            for prices in [tuple(chance.randint(-3, 5) for _ in people(net)) for _ in range(3)] + [(2,) * len(people(net)), (0,) * len(people(net))]:
                worth = {taking: sum(n * price for n, price in zip(taking, prices)) for taking in takings}
                for taking in takings:
                    rows = []
                    for giver, taker in pairs(net):
                        new = behind(net, taking, (giver, taker, 1))
                        if new in takings and worth[new] > worth[taking]:
                            rows.append((-worth[new], (giver, taker, 1)))
                    right = worth[taking] == max(worth.values())
                    self.assertEqual(better_trade(net, arrivals, taking, prices), min(rows)[1] if rows else None)
                    self.assertIs(is_best(net, arrivals, taking, prices), right)
                    chain = best_chain(net, arrivals, taking, prices)
                    self.assertEqual(chain is None, not right)
                    self.check_chain(net, arrivals, taking, prices, chain)

    def check_chain(self, net, arrivals, taking, prices, chain):
        own = dict(zip(people(net), prices))
        levels = sorted({price for price in prices if price > 0}, reverse=True)
        sets = tuple(tuple(name for name in people(net) if own[name] >= level) for level in levels)
        idle = all(number == 0 for number, price in zip(taking, prices) if price < 0)
        self.assertEqual(chain is not None, idle and all(is_full(net, arrivals, taking, some) for some in sets))
        if chain is not None:
            self.assertEqual(chain, sets)

    def test_great_prices(self):
        self.assertEqual(better_trade(NET, GOODS, (0, 0), (GREAT, GREAT - 1)), ("", "a", 1))
        self.assertEqual(better_trade(NET, [["x", 0, GREAT]], [GREAT - 1, 1], [-GREAT, GREAT]), ("a", "", 1))
        self.assertEqual(better_trade(NET, GOODS, [1, 1], [GREAT, GREAT]), None)
        self.assertEqual(best_chain(NET, GOODS, (1, 1), [GREAT, GREAT]), (("a", "b"),))
        self.assertEqual(best_chain(NET, GOODS, (0, 0), [-GREAT, 0]), ())
        self.assertEqual(better_trade(NET, GOODS, (1, 1), (-5, -5)), ("a", "", 1))
        self.assertEqual(best_chain(NET, GOODS, (1, 1), (1, 2)), (("b",), ("a", "b")))
        self.assertIs(best_chain(NET, GOODS, (2, 0), (1, 2)), None)
        each = (1, (("a", 0), ("b", 0), ("c", 0), ("d", 0)), (), tuple((name, name, (0,)) for name in "abcd"))
        for prices in ((3, GREAT, 5, 10 ** 18), (10 ** 19, 7, GREAT - 1, 2 ** 61), (9, 2 ** 64, 17, 8)):
            self.check_chain(each, (), (0, 0, 0, 0), prices, best_chain(each, (), (0, 0, 0, 0), prices))
            self.assertEqual(len(best_chain(each, (), (0, 0, 0, 0), prices)), 4)


class Lots(unittest.TestCase):
    def test_always(self):
        found = 0
        for net, arrivals, book, takings in lively_takings(3600, 80):
            rows = []
            for giver in people(net):
                for taker in people(net):
                    whole = [(giver, taker, taking[people(net).index(giver)]) for taking in takings]
                    if giver != taker and all(behind(net, taking, trade) in takings for taking, trade in zip(takings, whole)):
                        rows.append((giver, taker))
            found += len(rows) > 0
            self.assertEqual(always_trades(net, arrivals), tuple(sorted(rows)))
            self.assertEqual(always_trades(as_lists(net), as_lists(arrivals)), tuple(sorted(rows)))
        self.assertGreater(found, 10)

    def test_lots(self):
        unlike = 0
        for net, arrivals, book in list(lively_nets(3700, 80)) + list(lively_nets(9700, 40, 4)):
            names = people(net)
            apart = [some for some in parts(names) if some and book[some] + book[tuple(x for x in names if x not in some)] == book[names]]
            least = [some for some in apart if not any(set(other) < set(some) for other in apart)]
            self.assertEqual(lots_apart(net, arrivals), tuple(least))
            self.assertEqual(sorted(name for lot in least for name in lot), list(names))
            unlike += 1 < len(least) < len(names)
        self.assertGreater(unlike, 5)

    def test_lots_by_trades(self):
        for net, arrivals, book, takings in lively_takings(3800, 60):
            lots = lots_apart(net, arrivals)
            tops = [taking for taking in takings if sum(taking) == book[people(net)]]
            for one in people(net):
                for other in people(net):
                    if one != other:
                        right = any(behind(net, taking, (one, other, 1)) in takings for taking in tops)
                        self.assertEqual(any(one in lot and other in lot for lot in lots), right)
            for taking in tops:
                self.assertTrue(all(total_of(net, taking, lot) == book[lot] for lot in lots))

    def test_edges(self):
        bare = (1, (("a", 0),), (), ())
        self.assertEqual((lots_apart(bare, ()), always_trades(bare, ()), trades_from(bare, (), ()), trade_row(bare, (), (), ())), ((), (), [], ()))
        self.assertEqual((units_between(bare, (), (), ()), better_trade(bare, (), (), ()), best_chain(bare, (), (), ())), (0, None, ()))
        self.assertIs(is_trade(bare, (), (), ("", "", 1)), False)
        idle = (2, (("a", 1),), (), (("m", "a", ()), ("n", "a", (0, 1))))
        self.assertEqual(lots_apart(idle, (("a", 0, GREAT),)), (("m",), ("n",)))
        self.assertEqual(always_trades(idle, (("a", 0, GREAT),)), (("m", "n"),))
        self.assertEqual(always_trades(idle, ()), (("m", "n"), ("n", "m")))
        self.assertEqual(trades_from(idle, (), (0, 0)), [])
        self.assertEqual(trade_row(idle, (("a", 0, GREAT),), (0, 0), (0, GREAT)), (("", "n", GREAT),))
        self.assertEqual(trade_most(idle, (("a", 0, GREAT),), (0, 7), "", "n"), GREAT - 7)


class Wrong(unittest.TestCase):
    def test_no_customer(self):
        for taking in ((1, 1), (9, 9), [9, 9]):
            for giver, taker, first in (("z", "a", "z"), ("a", "z", "z"), ("z", "y", "z"), ("z", "", "z"), ("", "x", "x"), ("A", "b", "A"), ("a b", "", "a b")):
                check_raises(self, NoCustomer, {"name": first}, trade_most, NET, GOODS, taking, giver, taker)
                for amount in (1, GREAT):
                    check_raises(self, NoCustomer, {"name": first}, behind_trade, NET, GOODS, taking, (giver, taker, amount))
                    check_raises(self, NoCustomer, {"name": first}, behind_trade, NET, GOODS, taking, [giver, taker, amount])

    def test_can_not(self):
        for taking in ((3, 0), (0, 2), (2, 1), [2, 1], (GREAT, 0)):
            check_raises(self, CanNot, {}, trade_most, NET, GOODS, taking, "a", "b")
            check_raises(self, CanNot, {}, trade_most, NET, GOODS, taking, "a", "")
            check_raises(self, CanNot, {}, behind_trade, NET, GOODS, taking, ("a", "", 1))
            check_raises(self, CanNot, {}, trades_from, NET, GOODS, taking)
            check_raises(self, CanNot, {}, better_trade, NET, GOODS, taking, (1, 1))
            check_raises(self, CanNot, {}, is_best, NET, GOODS, taking, (0, 0))
            check_raises(self, CanNot, {}, best_chain, NET, GOODS, taking, (-1, -1))
            for call in (units_between, trade_row):
                check_raises(self, CanNot, {}, call, NET, GOODS, taking, (1, 1))
                check_raises(self, CanNot, {}, call, NET, GOODS, (1, 1), taking)
            for thing in STRANGE[::4]:
                check_raises(self, CanNot, {}, is_trade, NET, GOODS, taking, thing)
                check_raises(self, CanNot, {}, is_trade_row, NET, GOODS, taking, (1, 1), thing)
                check_raises(self, CanNot, {}, is_trade_row, NET, GOODS, (1, 1), taking, thing)

    def test_lists_are_new(self):
        first = trades_from(NET, GOODS, (1, 1))
        first.clear()
        self.assertEqual(len(trades_from(NET, GOODS, (1, 1))), 3)


if __name__ == "__main__":
    unittest.main()
