"""FULL sets against all TAKINGS of small NETS, papers and chains by a look at what they claim."""

import unittest

from helpers import STRANGE, all_spots, as_lists, chance_net, changed, cuts_with_values, fits, good_plan, own_spots, people, served
from helpers import taking_nets, total_of, value

from freightrights.covers import covers
from freightrights.errors import CanNot, NoCustomer
from freightrights.fulls import always_full, both_full, can_get, can_give, chain_taking, full_chain, full_paper, full_sets
from freightrights.fulls import getters, givers, greatest_full, how_many_full, is_full, is_full_chain, is_full_paper
from freightrights.fulls import is_loose_paper, knots, least_full, loose_paper

NET = (2, (("a", 5), ("b", 0)), (("x", "a", "b", 0, 2),), (("m", "b", (0, 1)), ("n", "a", (1,)), ("p", "b", (1,))))
GOODS, TAKING = (("a", 0, 3),), (1, 0, 2)
GREAT = 10 ** 30


def fulls_of(net, book, taking):
    return sorted(some for some in book if total_of(net, taking, some) == book[some])


class Fulls(unittest.TestCase):
    def test_sets(self):
        for net, arrivals, book, takings in taking_nets(2000, 50):
            for taking in takings:
                fulls = fulls_of(net, book, taking)
                self.assertEqual(full_sets(net, arrivals, taking), fulls)
                self.assertEqual(how_many_full(net, arrivals, taking), len(fulls))
                self.assertEqual(greatest_full(net, arrivals, taking), max(fulls, key=len))
                self.assertTrue(all(set(row) <= set(greatest_full(net, arrivals, taking)) for row in fulls))
                for some in book:
                    self.assertIs(is_full(net, arrivals, taking, some), some in fulls)
                for name in people(net):
                    rows = [row for row in fulls if name in row]
                    least = min(rows, key=len) if rows else None
                    self.assertEqual(least_full(net, arrivals, taking, name), least)
                    self.assertTrue(all(set(least) <= set(row) for row in rows))

    def test_get_and_give(self):
        for net, arrivals, book, takings in taking_nets(2000, 50):
            for taking in takings:
                able = tuple(name for name in people(net) if fits(net, book, changed(net, taking, name, 1)))
                self.assertEqual(can_get(net, arrivals, taking), able)
                gives = {}
                for one in people(net):
                    for other in people(net):
                        new = changed(net, changed(net, taking, one, -1), other, 1)
                        gives[one, other] = one != other and min(new) >= 0 and fits(net, book, new)
                        self.assertIs(can_give(net, arrivals, taking, one, other), gives[one, other])
                for name in people(net):
                    self.assertEqual(givers(net, arrivals, taking, name), tuple(one for one in people(net) if gives[one, name]))
                    self.assertEqual(getters(net, arrivals, taking, name), tuple(one for one in people(net) if gives[name, one]))

    def test_knots_and_chains(self):
        for net, arrivals, book, takings in taking_nets(2000, 50):
            for taking in takings:
                fulls = fulls_of(net, book, taking)
                found = {}
                for name in people(net):
                    found.setdefault(tuple(row for row in fulls if name in row), []).append(name)
                knotted = tuple(sorted(tuple(row) for row in found.values()))
                self.assertEqual(knots(net, arrivals, taking), knotted)
                chain = full_chain(net, arrivals, taking)
                self.assertTrue(self.good_chain(fulls, chain))
                self.assertIs(is_full_chain(net, arrivals, taking, chain), True)
                within = [row for row in knotted if set(row) <= set(chain[-1])]
                self.assertEqual(len(chain), len(within) + 1)
                for other in [chain[1:], chain[:-1], chain[::-1], chain + chain[-1:], list(chain), chain[:1] + chain[2:], ((),) + chain,
                              chain + (people(net),), as_lists(chain), ((), people(net))]:
                    self.assertIs(is_full_chain(net, arrivals, taking, other), self.good_chain(fulls, other), other)

    def good_chain(self, fulls, chain):
        if not isinstance(chain, tuple) or len(chain) == 0 or any(row not in fulls for row in chain):
            return False
        if chain[0] != () or chain[-1] != max(fulls, key=len):
            return False
        for one, other in zip(chain, chain[1:]):
            if not set(one) < set(other) or any(set(one) < set(row) < set(other) for row in fulls):
                return False
        return True

    def test_all_chains(self):
        net = (1, (("a", 0), ("b", 0)), (), (("m", "a", (0,)), ("n", "b", (0,))))
        rows = (("a", 0, 1), ("b", 0, 2))
        for chain in (((), ("m",), ("m", "n")), ((), ("n",), ("m", "n"))):
            self.assertIs(is_full_chain(net, rows, (1, 2), chain), True)
        for chain in (((), ("m", "n")), ((), ("m",), ("n",), ("m", "n")), ((), ("m",)), (("m",), ("m", "n")), ((), ("n", "m")),
                      ((), ("m",), ("n", "m")), ((), ("m",), ("m",), ("m", "n")), ((),), (), ((), ["m"], ("m", "n")), ((), ("z",), ("m", "n"))):
            self.assertIs(is_full_chain(net, rows, (1, 2), chain), False, chain)
        for thing in STRANGE:
            self.assertIs(is_full_chain(net, rows, (1, 2), ((), thing)), False)
            self.assertIs(is_full_chain(net, rows, (1, 2), ((), thing, ("m", "n"))), False)
            self.assertIs(is_full_chain(net, rows, (1, 2), (thing, ("m",), ("m", "n"))), thing == () and isinstance(thing, tuple))
        self.assertIs(is_full_chain(net, rows, (0, 1), ((),)), True)
        for thing in STRANGE:
            self.assertIs(is_full_chain(net, rows, (0, 1), thing), thing == ((),) and isinstance(thing, tuple))
            self.assertIs(is_full_paper(net, rows, (1, 2), ("m",), thing), isinstance(thing, tuple) and thing == (("a", 0),) and thing[0][1] is not True)
            self.assertIs(is_loose_paper(net, rows, (0, 1), ("m",), thing), False)


class Papers(unittest.TestCase):
    def test_papers(self):
        for net, arrivals, book, takings in taking_nets(2000, 40):
            for taking in takings[::2]:
                for some in book:
                    full = total_of(net, taking, some) == book[some]
                    paper, loose = full_paper(net, arrivals, taking, some), loose_paper(net, arrivals, taking, some)
                    self.assertEqual((paper is None, loose is None), (not full, full))
                    if full:
                        self.assertTrue(own_spots(net, some) <= set(paper) <= set(all_spots(net)))
                        self.assertEqual(value(net, arrivals, set(paper)), total_of(net, taking, some))
                        self.assertIs(is_full_paper(net, arrivals, taking, some, paper), True)
                    else:
                        self.assertTrue(good_plan(net, arrivals, loose))
                        self.assertGreater(total_of(net, served(net, loose), some), total_of(net, taking, some))
                        self.assertIs(is_loose_paper(net, arrivals, taking, some, loose), True)

    def test_judging(self):
        for net, arrivals, book, takings in taking_nets(2000, 15):
            for some in book:
                rows = cuts_with_values(net, arrivals, some)[::4]
                plan = loose_paper(net, arrivals, (0,) * len(people(net)), people(net)) or ((), ())
                for taking in takings[::3]:
                    for far, number in rows:
                        right = number == total_of(net, taking, some)
                        self.assertIs(is_full_paper(net, arrivals, taking, some, far), right)
                        self.assertIs(is_full_paper(net, arrivals, taking, some, as_lists(far)), False)
                    right = total_of(net, served(net, plan), some) > total_of(net, taking, some)
                    self.assertIs(is_loose_paper(net, arrivals, taking, some, plan), right)
                    self.assertIs(is_loose_paper(net, arrivals, taking, some, as_lists(plan)), False)

    def test_far_spots_of_others(self):
        self.assertIs(is_full_paper(NET, GOODS, TAKING, ("p",), (("a", 0),)), False)
        self.assertIs(is_full_paper(NET, GOODS, TAKING, ("p",), (("a", 0), ("b", 1))), False)
        self.assertIs(is_full_paper(NET, GOODS, TAKING, (), ()), True)
        self.assertIs(is_loose_paper(NET, GOODS, TAKING, (), ((), ())), False)
        self.assertIsNone(loose_paper(NET, GOODS, TAKING, ()))


class Always(unittest.TestCase):
    def test_by_all_takings(self):
        for net, arrivals, book, takings in taking_nets(2000, 45):
            tops = [row for row in takings if sum(row) == book[people(net)]]
            fulls = {row: set(fulls_of(net, book, row)) for row in takings}
            for some in book:
                self.assertIs(always_full(net, arrivals, some), all(some in fulls[row] for row in tops))
                self.assertIs(always_full(net, arrivals, list(some)), all(some in fulls[row] for row in tops))
                for other in book:
                    right = any(some in fulls[row] and other in fulls[row] for row in takings)
                    self.assertIs(both_full(net, arrivals, some, other), right)
                    if set(some) <= set(other):
                        for sets in ((some, other), (some,), (some, some, other)):
                            row = chain_taking(net, arrivals, sets)
                            self.assertIn(row, tops)
                            self.assertTrue(set(sets) <= fulls[row])
                            self.assertEqual(chain_taking(as_lists(net), as_lists(arrivals), as_lists(sets)), row)
            self.assertIn(chain_taking(net, arrivals, ()), tops)

    def test_great(self):
        net = (1, (("a", 0), ("b", 0)), (("x", "a", "b", 0, GREAT),), (("m", "a", (0,)), ("n", "b", (0,))))
        rows = (("a", 0, GREAT + 1),)
        self.assertEqual(chain_taking(net, rows, (("n",),)), (1, GREAT))
        self.assertEqual(full_sets(net, rows, (1, GREAT)), [(), ("m", "n"), ("n",)])
        self.assertEqual(full_sets(net, rows, (GREAT + 1, 0)), [(), ("m",), ("m", "n")])
        self.assertEqual(can_get(net, rows, (0, GREAT)), ("m",))
        self.assertEqual((givers(net, rows, (1, GREAT), "n"), getters(net, rows, (1, GREAT), "n")), ((), ("m",)))


class GreatNets(unittest.TestCase):
    def test_by_covers(self):
        """FULL sets by the COVERS of all sets, for up to six customers and great amounts."""
        asked = 0
        for seed in range(60):
            net, arrivals = chance_net(seed + 900, 6, 5, 8, 6, seed % 2 == 0)
            names = people(net)
            book = dict(covers(net, arrivals))
            top = chain_taking(net, arrivals, (names[1::2],))
            self.assertEqual(sum(top), book[names])
            for taking in (top, tuple(number // 2 for number in top), tuple(max(0, number - 1) for number in top)):
                fulls = fulls_of(net, book, taking)
                asked += len(fulls)
                self.assertEqual(full_sets(net, arrivals, taking), fulls)
                self.assertIs(is_full_chain(net, arrivals, taking, full_chain(net, arrivals, taking)), True)
                for name in names:
                    rows = [row for row in fulls if name in row]
                    each = [one for one in names if one != name and total_of(net, taking, (one,)) > 0 and all(one in row for row in rows)]
                    self.assertEqual(givers(net, arrivals, taking, name), tuple(each))
                    self.assertEqual(least_full(net, arrivals, taking, name), min(rows, key=len) if rows else None)
        self.assertGreater(asked, 500)


class Wrong(unittest.TestCase):
    def check_raises(self, error, kept, call, *told):
        with self.assertRaises(error) as caught:
            call(*told)
        self.assertEqual(vars(caught.exception), kept)

    def test_no_customer(self):
        for some, first in ((("z",), "z"), (("", "m"), ""), (("m", "o", "z"), "o"), (["a"], "a")):
            for call in (is_full, full_paper, loose_paper):
                self.check_raises(NoCustomer, {"name": first}, call, NET, GOODS, TAKING, some)
                self.check_raises(CanNot, {}, call, NET, GOODS, (9, 9, 9), some)
            for call in (is_full_paper, is_loose_paper):
                for thing in STRANGE[::5]:
                    self.check_raises(NoCustomer, {"name": first}, call, NET, GOODS, TAKING, some, thing)
                    self.check_raises(CanNot, {}, call, NET, GOODS, (9, 9, 9), some, thing)
            self.check_raises(NoCustomer, {"name": first}, always_full, NET, GOODS, some)
            self.check_raises(NoCustomer, {"name": first}, both_full, NET, GOODS, some, ("y",))
            self.check_raises(NoCustomer, {"name": first}, both_full, NET, GOODS, ("m",), some)
            self.check_raises(NoCustomer, {"name": first}, chain_taking, NET, GOODS, (some, ("y", "z")))
            self.check_raises(NoCustomer, {"name": first}, chain_taking, NET, GOODS, ((), some))
        for name in ("z", "", "a", "x", "M"):
            for call in (least_full, givers, getters):
                self.check_raises(NoCustomer, {"name": name}, call, NET, GOODS, TAKING, name)
                self.check_raises(CanNot, {}, call, NET, GOODS, [9, 9, 9], name)
            self.check_raises(NoCustomer, {"name": name}, can_give, NET, GOODS, TAKING, name, "y")
            self.check_raises(NoCustomer, {"name": name}, can_give, NET, GOODS, TAKING, "m", name)
            self.check_raises(NoCustomer, {"name": name}, can_give, NET, GOODS, TAKING, name, name)
            self.check_raises(CanNot, {}, can_give, NET, GOODS, (9, 9, 9), name, "y")

    def test_can_not(self):
        for call in (full_sets, how_many_full, greatest_full, can_get, knots, full_chain):
            self.check_raises(CanNot, {}, call, NET, GOODS, (2, 0, 2))
        for thing in STRANGE:
            self.check_raises(CanNot, {}, is_full_chain, NET, GOODS, (2, 0, 2), thing)

    def test_without_customers(self):
        bare = (1, (("a", 0),), (), ())
        self.assertEqual((full_sets(bare, (), ()), knots(bare, (), ()), full_chain(bare, (), ()), can_get(bare, (), ())), ([()], (), ((),), ()))
        self.assertEqual((chain_taking(bare, (), ((),)), always_full(bare, (), ()), both_full(bare, (), (), ())), ((), True, True))

    def test_lists_are_new(self):
        first = full_sets(NET, GOODS, TAKING)
        first.clear()
        self.assertEqual(len(full_sets(NET, GOODS, TAKING)), 4)


if __name__ == "__main__":
    unittest.main()
