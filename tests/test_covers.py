"""COVERS against the least value of all CUTS, TAKINGS one by one, guarantees on greater NETS."""

import random
import unittest
from itertools import product

from helpers import STRANGE, as_lists, fits, good_plan, great_nets, own_spots, parts, people, served, small_nets, total_of, value

from freightrights.covers import all_takings, are_apart, can_be, cover, cover_plan, covers, gain, how_many_takings
from freightrights.covers import is_cover_plan, is_whole, over_set, room_beside, same_covers, whole, wished_cover
from freightrights.covers import wished_covers
from freightrights.cuts import least_cut
from freightrights.errors import CanNot, NoCustomer, OtherCustomers

NET = (2, (("a", 1), ("b", 0)), (("x", "a", "b", 1, 2),), (("m", "b", (1,)), ("n", "a", (0, 1))))
GOODS = (("a", 0, 3), ("a", 1, 1))
GREAT = 10 ** 30


def takings_about(seed, net, book, many):
    """TAKINGS by chance, some that can be and some that cannot."""
    chance = random.Random(seed)
    for _ in range(many):
        yield tuple(chance.randint(0, book[(name,)] + 1) // chance.choice([1, 1, 2, 3]) for name in people(net))


class Covers(unittest.TestCase):
    def test_least_values(self):
        for net, arrivals, book in small_nets(1000, 80, 3, 8, 5):
            self.assertEqual(covers(net, arrivals), tuple((some, book[some]) for some in sorted(book)))
            self.assertEqual(covers(as_lists(net), as_lists(arrivals)), tuple((some, book[some]) for some in sorted(book)))
            for some in book:
                self.assertEqual(cover(net, arrivals, some), book[some])
                self.assertEqual(cover(net, arrivals, list(some)), book[some])
                for name in people(net):
                    more = tuple(sorted(set(some) | {name}))
                    self.assertEqual(gain(net, arrivals, some, name), book[more] - book[some])
            self.assertEqual(whole(net, arrivals), book[people(net)])

    def test_guarantees(self):
        """A PLAN that carries so much, and a CUT of just this value: so both are right."""
        for net, arrivals in great_nets(500, 40):
            book = dict(covers(net, arrivals))
            self.assertEqual(list(book), parts(people(net)))
            self.assertEqual(book[()], 0)
            for some in book:
                plan, far = cover_plan(net, arrivals, some), set(least_cut(net, arrivals, some))
                self.assertTrue(good_plan(net, arrivals, plan))
                self.assertEqual(total_of(net, served(net, plan), some), book[some])
                self.assertTrue(own_spots(net, some) <= far)
                self.assertEqual(value(net, arrivals, far), book[some])
            for one in list(book)[::3]:
                for other in list(book)[::4]:
                    both, each = tuple(sorted(set(one) | set(other))), tuple(sorted(set(one) & set(other)))
                    self.assertLessEqual(book[both] + book[each], book[one] + book[other])

    def test_edges(self):
        bare = (1, (("a", 0),), (), ())
        self.assertEqual((covers(bare, ()), whole(bare, (("a", 0, 3),)), can_be(bare, (), ()), over_set(bare, (), ())), ((((), 0),), 0, True, None))
        self.assertEqual((all_takings(bare, ()), how_many_takings(bare, ()), is_whole(bare, (), ())), ([()], 1, True))
        idle = (2, (("a", 9),), (), (("m", "a", ()), ("n", "a", (0, 1))))
        self.assertEqual(covers(idle, (("a", 0, GREAT),)), (((), 0), (("m",), 0), (("m", "n"), GREAT), (("n",), GREAT)))
        self.assertEqual(covers(idle, ()), (((), 0), (("m",), 0), (("m", "n"), 0), (("n",), 0)))
        self.assertEqual(all_takings(idle, ()), [(0, 0)])
        row = (1, (("a", 0), ("b", 0), ("c", 0)), (("x", "b", "c", 0, 2), ("y", "a", "b", 0, 3)), (("m", "c", (0,)), ("n", "b", (0,))))
        self.assertEqual(covers(row, (("a", 0, GREAT),)), (((), 0), (("m",), 2), (("m", "n"), 3), (("n",), 3)))
        late = (2, (("a", 0), ("b", 0)), (("x", "a", "b", 2, 9),), (("m", "b", (0, 1)),))
        self.assertEqual(whole(late, (("a", 0, 9),)), 0)
        six = (6, (("a", GREAT), ("b", 0)), (("x", "a", "b", 5, GREAT - 1),), (("m", "b", (5,)), ("n", "a", (5,))))
        self.assertEqual(covers(six, (("a", 0, 2 * GREAT),)), (((), 0), (("m",), GREAT - 1), (("m", "n"), 2 * GREAT - 1), (("n",), GREAT)))

    def test_are_apart(self):
        for net, arrivals, book in small_nets(1000, 40, 3, 8, 5):
            for one in book:
                for other in book:
                    both = book[tuple(sorted(set(one) | set(other)))]
                    self.assertIs(are_apart(net, arrivals, one, other), both == book[one] + book[other])
        self.assertIs(are_apart(NET, GOODS, ["m"], ["n"]), False)

    def test_same_covers(self):
        rows = list(small_nets(1000, 60, 2, 8, 5))
        for net, arrivals, book in rows:
            for other, later, second in rows:
                if people(net) == people(other):
                    self.assertIs(same_covers(net, arrivals, other, later), book == second)
                else:
                    with self.assertRaises(OtherCustomers):
                        same_covers(net, arrivals, other, later)
        self.assertIs(same_covers(as_lists(NET), as_lists(GOODS), NET, GOODS), True)


class Takings(unittest.TestCase):
    def test_by_books(self):
        for seed, (net, arrivals, book) in enumerate(small_nets(1000, 60, 3, 8, 5)):
            for taking in takings_about(seed, net, book, 8):
                right = fits(net, book, taking)
                over = sorted((len(some), some) for some in book if total_of(net, taking, some) > book[some])
                self.assertIs(can_be(net, arrivals, taking), right)
                self.assertEqual(over_set(net, arrivals, taking), over[0][1] if over else None)
                self.assertIs(is_whole(net, arrivals, taking), right and sum(taking) == book[people(net)])
                for name in people(net):
                    if right:
                        least = min(book[some] - total_of(net, taking, some) for some in book if name in some)
                        self.assertEqual(room_beside(net, arrivals, taking, name), least)
                    else:
                        with self.assertRaises(CanNot):
                            room_beside(net, arrivals, taking, name)

    def test_over_set_of_several(self):
        net = (1, (("a", 0),), (), (("m", "a", (0,)), ("n", "a", (0,)), ("o", "a", (0,))))
        rows = (("a", 0, 3),)
        for taking, some in (((2, 2, 2), ("m", "n")), ((1, 2, 2), ("n", "o")), ((2, 1, 2), ("m", "o")), ((1, 1, 2), ("m", "n", "o")),
                             ((0, 4, 4), ("n",)), ((1, 1, 1), None), ((5, 0, 4), ("m",)), ((0, 1, 3), ("n", "o"))):
            self.assertEqual(over_set(net, rows, taking), some)
        four = (1, (("a", 0), ("b", 0)), (), (("m", "a", (0,)), ("n", "b", (0,)), ("o", "b", (0,)), ("p", "a", (0,))))
        self.assertEqual(over_set(four, (("a", 0, 2), ("b", 0, 2)), (2, 1, 2, 1)), ("m", "p"))
        self.assertEqual(over_set(four, (("a", 0, 2), ("b", 0, 2)), (1, 1, 2, 1)), ("n", "o"))

    def test_one_by_one(self):
        asked = 0
        for net, arrivals, book in small_nets(1000, 60):
            bounds = [book[(name,)] for name in people(net)]
            rows = [row for row in product(*[range(most + 1) for most in bounds]) if fits(net, book, row)]
            many = 1
            for most in bounds:
                many *= most + 1
            if many <= 300:
                asked += 1
                self.assertEqual(all_takings(net, arrivals), rows)
                self.assertEqual(how_many_takings(net, arrivals), len(rows))
                self.assertTrue(all(can_be(net, arrivals, row) for row in rows[::7]))
        self.assertGreater(asked, 30)
        first = all_takings(NET, GOODS)
        first.append("x")
        self.assertEqual(len(all_takings(NET, GOODS)), 12)

    def test_wishes(self):
        for seed, (net, arrivals, book) in enumerate(small_nets(1000, 50, 3, 8, 5)):
            for wishes in takings_about(seed, net, book, 3):
                rows = []
                for some in sorted(book):
                    least = min(book[part] + total_of(net, wishes, set(some) - set(part)) for part in parts(some))
                    rows.append((some, least))
                    self.assertEqual(wished_cover(net, arrivals, wishes, some), least)
                self.assertEqual(wished_covers(net, arrivals, wishes), tuple(rows))
        self.assertEqual(wished_cover(NET, GOODS, [GREAT, 1], ["m", "n"]), 3)


class Plans(unittest.TestCase):
    def test_there_and_back(self):
        for net, arrivals, book in small_nets(1000, 40, 3, 8, 5):
            plans = {some: cover_plan(net, arrivals, some) for some in book}
            for some in book:
                self.assertEqual(cover_plan(as_lists(net), as_lists(arrivals), list(some)), plans[some])
                for plan in plans.values():
                    right = total_of(net, served(net, plan), some) == book[some]
                    self.assertIs(is_cover_plan(net, arrivals, some, plan), right)
                    self.assertIs(is_cover_plan(net, arrivals, some, as_lists(plan)), False)

    def test_things(self):
        plan = ((("x", 0, 2),), (("m", 1, 2), ("n", 0, 1)))
        self.assertIs(is_cover_plan(NET, GOODS, ("m",), plan), True)
        self.assertIs(is_cover_plan(NET, GOODS, ["m"], plan), True)
        self.assertIs(is_cover_plan(NET, GOODS, ("n",), plan), False)
        self.assertIs(is_cover_plan(NET, GOODS, ("m",), ((("x", 0, 3),), (("m", 1, 3),))), False)
        for thing in STRANGE:
            self.assertIs(is_cover_plan(NET, GOODS, (), thing), thing == ((), ()) and isinstance(thing, tuple) and
                          all(isinstance(part, tuple) for part in thing))


class Wrong(unittest.TestCase):
    def check_first(self, first, call, *told):
        with self.assertRaises(NoCustomer) as caught:
            call(*told)
        self.assertEqual(caught.exception.name, first)

    def test_no_customer(self):
        for some, first in ((("z",), "z"), (("", "m"), ""), (("m", "p", "z"), "p"), (("a",), "a"), (["M", "m"], "M")):
            for call in (cover, cover_plan):
                self.check_first(first, call, NET, GOODS, some)
            self.check_first(first, gain, NET, GOODS, some, "y")
            self.check_first(first, wished_cover, NET, GOODS, (1, 1), some)
            self.check_first(first, are_apart, NET, GOODS, some, ("y",))
            self.check_first(first, are_apart, NET, GOODS, ("m",), some)
            for thing in STRANGE:
                self.check_first(first, is_cover_plan, NET, GOODS, some, thing)
        for name in ("z", "", "a", "x", "M"):
            self.check_first(name, gain, NET, GOODS, ("m",), name)
            self.check_first(name, room_beside, NET, GOODS, (1, 1), name)
            self.check_first(name, room_beside, NET, GOODS, (9, 9), name)
        with self.assertRaises(CanNot):
            room_beside(NET, GOODS, (9, 9), "m")


if __name__ == "__main__":
    unittest.main()
