"""PLANS against a book of goods of the test's own, hour by hour."""

import random
import unittest

from helpers import STRANGE, all_spots, as_lists, chance_net, cover_book, fits, good_plan, goods_book, lowered, people
from helpers import served

from freightrights.errors import CanNot, NoNumber, NoYard
from freightrights.plans import given_back, idle_moves, is_leaner, is_plan, is_plan_for, leaner, left, lying, plan_for
from freightrights.plans import taking_of, there, to_spare

NET = (3, (("a", 1), ("b", 0)), (("x", "a", "b", 1, 4),), (("m", "b", (1, 2)), ("n", "a", (0,))))
GOODS = (("a", 0, 5),)
PLAN = ((("x", 0, 3),), (("m", 1, 2), ("n", 0, 1)))
GREAT = 10 ** 30
BOTH = (2, (("a", 1), ("b", 1)), (("k", "b", "a", 1, 1), ("l", "a", "b", 1, 1)), (("m", "a", (1,)), ("n", "b", (1,))))


def chance_plan(seed, net, arrivals):
    """A PLAN by chance, made hour by hour of what is left by the book."""
    chance = random.Random(seed)
    moves, takes = {}, {}

    def plan():
        return tuple(sorted(k + (n,) for k, n in moves.items())), tuple(sorted(k + (n,) for k, n in takes.items()))

    for hour in range(net[0]):
        for _ in range(2):
            for line, start, goal, late, most in net[2]:
                more = min(goods_book(net, arrivals, plan())[1][start, hour], most - moves.get((line, hour), 0))
                if hour + late < net[0] and more > 0 and chance.random() < 0.7:
                    moves[line, hour] = moves.get((line, hour), 0) + chance.randint(1, more)
        for name, yard, own in net[3]:
            more = goods_book(net, arrivals, plan())[1][yard, hour]
            if hour in own and more > 0 and chance.random() < 0.6:
                takes[name, hour] = chance.randint(1, more)
    return plan()


def many_plans():
    for seed in range(120):
        net, arrivals = chance_net(seed, 4, 4, 6, 4, seed % 3 == 0)
        yield net, arrivals, chance_plan(seed, net, arrivals)


class IsPlan(unittest.TestCase):
    def test_plans(self):
        for plan in (((), ()), PLAN, ((("x", 0, 4), ("x", 1, 1)), ()), ((), (("n", 0, 5),)), ((("x", 0, 4),), (("m", 1, 4), ("n", 0, 1)))):
            self.assertIs(is_plan(NET, GOODS, plan), True, plan)
            self.assertIs(is_plan(as_lists(NET), as_lists(GOODS), plan), True, plan)
        self.assertIs(is_plan((1, (("a", 0),), (), ()), (), ((), ())), True)

    def test_one_sentence_broken(self):
        wide = (3, (("a", 9), ("b", 9)), (("x", "a", "b", 1, 4), ("y", "a", "b", 0, 4)), (("m", "b", (1, 2)), ("n", "b", (1,))))
        for moves, takes in (
                ((("y", 0, 1), ("x", 0, 1)), ()), ((("x", 1, 1), ("x", 0, 1)), ()), ((("x", 0, 1), ("x", 0, 1)), ()),
                ((("x", 0, 1), ("x", 0, 2)), ()), ((("x", 0, 5),), ()), ((("x", 2, 1),), ()), ((("y", 3, 1),), ()),
                ((("x", -1, 1),), ()), ((("x", 0, 0),), ()), ((("x", 0, -1),), ()), ((("z", 0, 1),), ()), ((("m", 0, 1),), ()),
                ((("x", True, 1),), ()), ((("x", 0, True),), ()), ((("x", 0),), ()), ((("x", 0, 1, 1),), ()),
                ([("x", 0, 1)], ()), ((["x", 0, 1],), ()), (((["x"], 0, 1),), ()), ((("x", "0", 1),), ()), ((("x", 0, None),), ()),
                ((("x", 0, 1),), (("m", 0, 1),)), ((("y", 0, 1),), (("m", 0, 1),)), ((("x", 0, 1),), (("m", 1, 0),)),
                ((("x", 0, 1),), (("m", 1, -1),)), ((("x", 0, 1),), (("m", 3, 1),)), ((("x", 0, 1),), (("z", 1, 1),)),
                ((("x", 0, 2),), (("n", 1, 1), ("m", 1, 1))), ((("x", 0, 2),), (("m", 1, 1), ("m", 1, 1))),
                ((("x", 0, 2),), (("m", 2, 1), ("m", 1, 1))), ((("x", 0, 1),), (("m", True, 1),)), ((("x", 0, 1),), [("m", 1, 1)]),
                ((("x", 0, 1),), (("m", 1, 1), ("n", 1, 1))), ((("x", 0, 3), ("y", 0, 4)), ()), ((), (("m", 1, 1),)),
                ((("x", 0, 1),), (["m", 1, 1],)), ((("x", 0, 1),), (("m", 1, True),)), ((("x", 0, 1),), None), (None, ())):
            self.assertIs(is_plan(wide, (("a", 0, 6),), (moves, takes)), False, (moves, takes))
        for thing in ((), ((),), ((), (), ()), [(), ()], None, "ab"):
            self.assertIs(is_plan(wide, (), thing), False)
        good = ((("x", 0, 1), ("x", 1, 4), ("y", 0, 1)), (("m", 1, 1), ("m", 2, 4), ("n", 1, 1)))
        self.assertIs(is_plan(wide, (("a", 0, 6),), good), True)

    def test_room(self):
        for room, right in ((0, False), (1, False), (2, True), (GREAT, True)):
            net = (2, (("a", room),), (), (("m", "a", (1,)),))
            self.assertIs(is_plan(net, (("a", 0, GREAT),), ((), (("m", 1, 2),))), right)

    def test_lines_of_late_0(self):
        net = (1, (("a", 0), ("b", 0), ("c", 0)), (("x", "b", "c", 0, 9), ("y", "a", "b", 0, 9)), (("m", "c", (0,)),))
        self.assertTrue(is_plan(net, (("a", 0, 2),), ((("x", 0, 2), ("y", 0, 2)), (("m", 0, 2),))))
        self.assertFalse(is_plan(net, (("a", 0, 2),), ((("x", 0, 2), ("y", 0, 1)), (("m", 0, 2),))))
        self.assertFalse(is_plan(net, (("b", 0, 1),), ((("x", 0, 2), ("y", 0, 2)), (("m", 0, 2),))))

    def test_changed_by_chance(self):
        for seed, (net, arrivals, plan) in enumerate(many_plans()):
            self.assertTrue(good_plan(net, arrivals, plan))
            self.assertIs(is_plan(net, arrivals, plan), True)
            self.assertIs(is_plan(net, arrivals, as_lists(plan)), False)
            chance = random.Random(seed)
            for part in (0, 1):
                for at, row in enumerate(plan[part]):
                    for other in ((row[0], row[1], row[2] + 1), (row[0], row[1] + 1, row[2]), (row[0], row[1] - 1, row[2]),
                                  (row[0], row[1], row[2] + chance.choice([2, 5, GREAT])), ("q", row[1], row[2])):
                        rows = plan[part][:at] + (other,) + plan[part][at + 1:]
                        new = (rows, plan[1]) if part == 0 else (plan[0], rows)
                        self.assertIs(is_plan(net, arrivals, new), good_plan(net, arrivals, new))

    def test_strange_things(self):
        for thing in STRANGE:
            self.assertIs(is_plan(NET, GOODS, thing), thing == ((), ()) and isinstance(thing, tuple) and
                          all(isinstance(part, tuple) for part in thing))
            self.assertIs(is_plan(NET, GOODS, (thing, ())), isinstance(thing, tuple) and thing == ())
            self.assertIs(is_plan(NET, GOODS, ((), thing)), isinstance(thing, tuple) and thing == ())
            self.assertIs(is_plan_for(NET, GOODS, (0, 0), (thing, ())), isinstance(thing, tuple) and thing == ())
            self.assertIs(is_leaner(NET, GOODS, ((), ()), ((), thing)), isinstance(thing, tuple) and thing == ())


class Book(unittest.TestCase):
    def test_by_chance(self):
        for net, arrivals, plan in many_plans():
            here, rest, lies, back = goods_book(net, arrivals, plan)
            for yard, hour in all_spots(net):
                self.assertEqual(there(net, arrivals, plan, yard, hour), here[yard, hour])
                self.assertEqual(left(net, arrivals, plan, yard, hour), rest[yard, hour])
            rows = tuple((yard, hour, lies[yard, hour]) for yard, hour in all_spots(net) if lies[yard, hour] > 0)
            self.assertEqual(lying(net, arrivals, plan), rows)
            self.assertEqual(given_back(net, arrivals, plan), back)
            self.assertEqual(back + sum(served(net, plan)), sum(row[2] for row in arrivals))
            self.assertEqual(taking_of(net, plan), served(net, plan))
            self.assertEqual(lying(as_lists(net), as_lists(arrivals), as_lists(plan)), rows)

    def test_errors(self):
        for call in (there, left, to_spare):
            for yard in ("c", "", "m", "x", "A"):
                for hour in (0, 3, -1):
                    with self.assertRaises(NoYard) as caught:
                        call(NET, GOODS, PLAN, yard, hour)
                    self.assertEqual(caught.exception.name, yard)
            for hour in (3, -1, GREAT):
                with self.assertRaises(NoNumber) as caught:
                    call(NET, GOODS, PLAN, "a", hour)
                self.assertEqual(caught.exception.number, hour)


class PlanFor(unittest.TestCase):
    def test_by_chance(self):
        for seed in range(60):
            net, arrivals = chance_net(seed, 3, 3, 5, 3, seed % 4 == 0)
            book = cover_book(net, arrivals)
            chance = random.Random(seed)
            for _ in range(12):
                taking = tuple(chance.randint(0, max(1, book[(name,)]) + (1 if chance.random() < 0.2 else 0)) for name in people(net))
                if fits(net, book, taking):
                    plan = plan_for(net, arrivals, taking)
                    self.assertTrue(good_plan(net, arrivals, plan))
                    self.assertEqual(served(net, plan), taking)
                    self.assertIs(is_plan_for(net, arrivals, taking, plan), True)
                    self.assertIs(is_plan_for(net, arrivals, list(taking), plan), True)
                    self.assertEqual(plan_for(net, arrivals, taking), plan)
                    self.assertEqual(plan_for(as_lists(net), as_lists(arrivals), list(taking)), plan)
                else:
                    with self.assertRaises(CanNot):
                        plan_for(net, arrivals, taking)

    def test_other_takings(self):
        for net, arrivals, plan in many_plans():
            taking = served(net, plan)
            self.assertIs(is_plan_for(net, arrivals, taking, plan), True)
            for at in range(len(taking)):
                other = taking[:at] + (taking[at] + 1,) + taking[at + 1:]
                self.assertIs(is_plan_for(net, arrivals, other, plan), False)
        self.assertIs(is_plan_for(NET, GOODS, (6, 0), ((("x", 0, 6),), (("m", 1, 6),))), False)

    def test_edges(self):
        self.assertEqual(plan_for((2, (("a", 1),), (), ()), (("a", 0, 1),), ()), ((), ()))
        self.assertEqual(plan_for((2, (("a", 1),), (), (("m", "a", ()),)), (("a", 0, 1),), (0,)), ((), ()))
        for net, rows, taking in (((2, (("a", 1),), (), (("m", "a", ()),)), (("a", 0, 1),), (1,)), ((2, (("a", 1),), (), (("m", "a", (0, 1)),)), (), (1,)),
                                  (NET, GOODS, (5, 1)), (NET, GOODS, (GREAT, 0)), ((2, (("a", 1),), (), (("m", "a", (0,)),)), (("a", 1, 1),), (1,)),
                                  ((2, (("a", 0), ("b", 9)), (("x", "a", "b", 2, 9),), (("m", "b", (0, 1)),)), (("a", 0, 9),), (1,))):
            with self.assertRaises(CanNot):
                plan_for(net, rows, taking)


class Spare(unittest.TestCase):
    def most_spare(self, net, arrivals, plan, spot):
        """By taking away more and more: an arrival below 0 does what taking away does."""
        gone = 0
        rows = {row[:2]: row[2] for row in arrivals}
        while gone <= 40:
            rows[spot] = rows.get(spot, 0) - 1
            book = goods_book(net, tuple(key + (rows[key],) for key in sorted(rows)), plan)[1]
            if min(book.values()) < 0:
                return gone
            gone += 1
        return gone

    def test_by_taking_away(self):
        for seed in range(70):
            net, arrivals = chance_net(seed, 4, 3, 6, 4)
            plan = chance_plan(seed, net, arrivals)
            for yard, hour in all_spots(net):
                self.assertEqual(to_spare(net, arrivals, plan, yard, hour), self.most_spare(net, arrivals, plan, (yard, hour)))

    def test_great(self):
        net = (3, (("a", GREAT), ("b", 0)), (("x", "a", "b", 0, GREAT),), (("m", "b", (2,)),))
        rows, plan = (("a", 0, 2 * GREAT), ("a", 1, 5)), ((("x", 2, 7),), (("m", 2, 7),))
        self.assertEqual([to_spare(net, rows, plan, "a", hour) for hour in (0, 1, 2)], [2 * GREAT - 2, GREAT - 2, GREAT - 7])
        self.assertEqual([to_spare(net, rows, plan, "b", hour) for hour in (0, 1, 2)], [0, 0, 0])

    def test_idle_by_one_less(self):
        for net, arrivals, plan in many_plans():
            idle = tuple(row[:2] for at, row in enumerate(plan[0]) if good_plan(net, arrivals, (lowered(plan[0], at), plan[1])))
            self.assertEqual(idle_moves(net, arrivals, plan), idle)
            self.assertEqual(idle_moves(as_lists(net), as_lists(arrivals), as_lists(plan)), idle)


class Leaner(unittest.TestCase):
    def check_leaner(self, net, arrivals, plan):
        lean = leaner(net, arrivals, plan)
        self.assertTrue(good_plan(net, arrivals, lean))
        self.assertEqual(lean[1], plan[1])
        mosts = {row[:2]: row[2] for row in plan[0]}
        self.assertTrue(all(row[2] <= mosts.get(row[:2], 0) for row in lean[0]))
        self.assertFalse(any(good_plan(net, arrivals, (lowered(lean[0], at), lean[1])) for at in range(len(lean[0]))))
        self.assertIs(is_leaner(net, arrivals, plan, lean), True)
        self.assertIs(is_leaner(as_lists(net), as_lists(arrivals), as_lists(plan), lean), True)
        self.assertEqual(leaner(as_lists(net), as_lists(arrivals), as_lists(plan)), lean)
        return lean

    def test_by_chance(self):
        for net, arrivals, plan in many_plans():
            self.check_leaner(net, arrivals, plan)
            self.assertIs(is_leaner(net, arrivals, plan, plan), idle_moves(net, arrivals, plan) == ())

    def test_is_leaner(self):
        self.assertTrue(is_leaner(NET, GOODS, PLAN, ((("x", 0, 2),), PLAN[1])))
        for thing in (PLAN, ((("x", 0, 1),), PLAN[1]), ((), PLAN[1]), ((("x", 0, 2),), ()), ((("x", 0, 2),), (("m", 1, 2),)),
                      ((("x", 1, 2),), (("m", 2, 2), ("n", 0, 1))), ([("x", 0, 2)], PLAN[1]), ((("x", 0, 2),), [PLAN[1]]),
                      ((("x", 0, 2), ("x", 1, 1)), PLAN[1]), None, ()):
            self.assertFalse(is_leaner(NET, GOODS, PLAN, thing), thing)
        taken = ((("x", 0, 1),), (("m", 1, 1),))
        self.assertFalse(is_leaner(NET, GOODS, taken, ((("x", 1, 1),), (("m", 2, 1),))))
        two = (1, (("a", 0), ("b", 0)), (("x", "a", "b", 0, 4), ("y", "a", "b", 0, 4)), (("m", "b", (0,)),))
        plan = ((("x", 0, 2), ("y", 0, 1)), (("m", 0, 2),))
        for moves, right in (((("x", 0, 2),), True), ((("x", 0, 1), ("y", 0, 1)), True), ((("y", 0, 2),), False), (plan[0], False)):
            self.assertIs(is_leaner(two, (("a", 0, 4),), plan, (moves, plan[1])), right)

    def test_both(self):
        rows, plan = (("a", 0, 1), ("b", 0, 1)), ((("k", 0, 1), ("l", 0, 1)), (("m", 1, 1), ("n", 1, 1)))
        self.assertEqual(idle_moves(BOTH, rows, plan), ())
        self.check_leaner(BOTH, rows, plan)
        self.assertTrue(is_leaner(BOTH, rows, plan, plan))
        self.assertTrue(is_leaner(BOTH, rows, plan, ((), plan[1])))
        self.assertFalse(is_leaner(BOTH, rows, plan, (plan[0][:1], plan[1])))
        self.assertFalse(is_leaner(BOTH, rows, ((), plan[1]), plan))

    def test_rings_over_hours(self):
        """Two yards that send each other goods round and round; each lowered move makes another one idle."""
        lines = (("k", "b", "a", 1, GREAT), ("l", "a", "b", 1, GREAT), ("m", "a", "b", 0, GREAT))
        net = (6, (("a", GREAT), ("b", GREAT)), lines, (("p", "a", (5,)), ("q", "b", (5,))))
        for less in (0, 1, 10 ** 15, GREAT - 1):
            arrivals = (("a", 0, GREAT), ("b", 0, GREAT - less))
            moves = tuple(("k", hour, GREAT - less) for hour in range(5)) + tuple(("l", hour, GREAT - less) for hour in range(5))
            plan = (moves, (("p", 5, GREAT - less), ("q", 5, 1)))
            self.assertTrue(good_plan(net, arrivals, plan))
            self.check_leaner(net, arrivals, plan)

    def test_narrow_rings(self):
        """Rooms smaller than what goes round: what lies over is lost, and each move holds up another one by a little."""
        for seed in range(40):
            chance = random.Random(seed)
            lines = (("k", "b", "a", 1, GREAT), ("l", "a", "b", 1, GREAT), ("n", "b", "a", 2, GREAT))
            net = (6, (("a", chance.choice([0, 1, 7, GREAT])), ("b", chance.choice([0, 1, GREAT]))), lines,
                   (("p", "a", (2, 4, 5)), ("q", "b", (3, 5))))
            arrivals = (("a", 0, GREAT), ("a", 1, 3), ("b", 0, GREAT - seed), ("b", 2, 10 ** 20))
            self.check_leaner(net, arrivals, chance_plan(seed, net, arrivals))


if __name__ == "__main__":
    unittest.main()
