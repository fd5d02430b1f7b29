"""Promises unit by unit, against all PLANS that go on from what was done in small NETS; days made hour by hour."""

import random
import unittest
from itertools import product

from helpers import STRANGE, as_lists, changed, check_raises, cover_book, fits, good_plan, goods_book, lively_great, lively_nets, people
from helpers import parts, served, some_classes, some_wishes, total_of

from freightrights.covers import can_be, cover, cover_plan
from freightrights.errors import CanNot, NoCustomer, NoNumber, NoYard
from freightrights.nets import is_arrivals, is_net
from freightrights.promises import can_go_on, day_by_day, is_next_hour, known_arrivals, left_arrivals, left_net, missed, next_hour
from freightrights.promises import plan_on, promised, raised_by
from freightrights.spreads import class_spread

NET = (2, (("a", 1), ("b", 0)), (("x", "a", "b", 0, 1),), (("m", "a", (0,)), ("n", "b", (0, 1)), ("o", "a", (1,))))
TWO, ONE, DONE = (("a", 0, 2),), (("m", "n", "o"),), ((), (("m", 0, 1),))
BARE = (1, (("a", 0),), (), ())
GREAT = 10 ** 30


def put(one, other):
    return tuple(sorted(one[0] + other[0])), tuple(sorted(one[1] + other[1]))


def choices(net, hours):
    """All pairs (part, name, hour) of what may leave or be taken in these hours, part 0 for lines, 1 for customers."""
    rows = [(0, row[0], hour) for row in net[2] for hour in hours if hour + row[3] < net[0]]
    return rows + [(1, row[0], hour) for row in net[3] for hour in row[2] if hour in hours]


def with_entry(plan, part, name, hour, amount):
    rows = list(plan)
    rows[part] = tuple(sorted(rows[part] + ((name, hour, amount),)))
    return tuple(rows)


def some_done(chance, net, arrivals, hour, most=4):
    """A PLAN by chance, all of hours below hour."""
    done = ((), ())
    for now in range(hour):
        rows = choices(net, (now,))
        chance.shuffle(rows)
        for part, name, _ in rows:
            for amount in chance.sample(range(1, most), 2):
                new = with_entry(done, part, name, now, amount)
                if good_plan(net, arrivals, new) and chance.random() < 0.8:
                    done = new
                    break
    return done


def look_on(net, arrivals, done, hour):
    """The NET of the hours from hour on, and what is there by the book of goods, or comes later."""
    lines = {row[0]: row for row in net[2]}
    lies = goods_book(net, arrivals, done)[2]
    goods = {}
    for yard, _ in net[1]:
        for now in range(hour, net[0]):
            amount = lies[yard, hour - 1] if now == hour and hour > 0 else 0
            amount += sum(n for place, when, n in arrivals if (place, when) == (yard, now))
            amount += sum(n for name, when, n in done[0] if lines[name][2] == yard and when + lines[name][3] == now)
            goods[yard, now - hour] = amount
    customers = tuple((name, yard, tuple(now - hour for now in own if now >= hour)) for name, yard, own in net[3])
    rows = tuple((yard, now, goods[yard, now]) for yard, now in sorted(goods) if goods[yard, now])
    return (net[0] - hour, net[1], net[2], customers), rows


def unit_by_unit(net, book, taken, wishes, classes):
    """What each has taken and is promised, by the COVERS of what is left: one unit behind another."""
    taking = (0,) * len(taken)
    top = max(tuple(min(wish, sum(book.values()) + max(taken)) for wish in wishes) + (0,))
    for row in classes:
        for number in range(1, top + 1):
            for name in row:
                at = people(net).index(name)
                if taken[at] < number <= wishes[at]:
                    more = changed(net, taking, name, 1)
                    if fits(net, book, more):
                        taking = more
    return tuple(one + other for one, other in zip(taken, taking))


def cases(seed, many, customers=3):
    """Two hours each of NETS, with what was done so far, wishes, classes, and the COVERS of what is left."""
    for at, (net, arrivals, _) in enumerate(lively_nets(seed, many, customers, 9)):
        chance = random.Random(seed + at)
        for hour in {chance.randrange(net[0]), net[0] - 1}:
            done = some_done(chance, net, arrivals, hour)
            later, goods = look_on(net, arrivals, done, hour)
            book = cover_book(later, goods)
            own = {(name,): book[(name,)] + 1 for name in people(net)}
            yield chance, net, arrivals, done, hour, some_wishes(chance, net, own), some_classes(chance, net), book


class Left(unittest.TestCase):
    def test_by_the_book(self):
        lying, on_lines = 0, 0
        for chance, net, arrivals, done, hour, wishes, classes, book in cases(9000, 120):
            later, goods = look_on(net, arrivals, done, hour)
            self.assertEqual(left_net(net, hour), later)
            self.assertTrue(is_net(later))
            self.assertEqual(left_arrivals(net, arrivals, done, hour), goods)
            self.assertTrue(is_arrivals(later, goods))
            self.assertEqual(left_net(as_lists(net), hour), later)
            self.assertEqual(left_arrivals(as_lists(net), as_lists(arrivals), as_lists(done), hour), goods)
            lines = {row[0]: row for row in net[2]}
            lying += any(left > 0 for (_, when), left in goods_book(net, arrivals, done)[2].items() if when == hour - 1)
            on_lines += any(when + lines[name][3] >= hour for name, when, _ in done[0])
        self.assertGreater(min(lying, on_lines), 5)

    def test_rooms_and_lines(self):
        net = (4, (("a", 2), ("b", 1)), (("x", "a", "b", 2, 5), ("y", "a", "b", 1, 5)), (("m", "b", (0, 3)), ("n", "a", (1, 2))))
        goods = (("a", 0, 9), ("a", 2, 4), ("b", 1, 3))
        done = ((("x", 0, 3), ("y", 0, 1)), (("n", 1, 1),))
        self.assertEqual(left_arrivals(net, goods, ((("x", 0, 3), ("y", 0, 1)), ()), 1), (("a", 0, 2), ("a", 1, 4), ("b", 0, 4), ("b", 1, 3)))
        self.assertEqual(left_arrivals(net, goods, done, 2), (("a", 0, 5), ("b", 0, 4)))
        self.assertEqual(left_arrivals(net, goods, done, 3), (("a", 0, 2), ("b", 0, 1)))
        self.assertEqual(left_net(net, 3), (1, (("a", 2), ("b", 1)), (("x", "a", "b", 2, 5), ("y", "a", "b", 1, 5)), (("m", "b", (0,)), ("n", "a", ()))))
        self.assertEqual(left_arrivals(net, goods, ((), ()), 0), goods)
        self.assertEqual(left_net(net, 0), net)

    def test_known_arrivals(self):
        real, told = (("a", 0, 2), ("a", 1, 5), ("b", 0, 1)), (("a", 0, 1), ("a", 2, 4), ("b", 1, 3))
        self.assertEqual(known_arrivals(real, told, 0), (("a", 0, 2), ("a", 2, 4), ("b", 0, 1), ("b", 1, 3)))
        self.assertEqual(known_arrivals(real, told, 1), (("a", 0, 2), ("a", 1, 5), ("a", 2, 4), ("b", 0, 1)))
        self.assertEqual(known_arrivals(as_lists(real), as_lists(told), 2), real)
        self.assertEqual((known_arrivals((), told, 0), known_arrivals(real, (), 0)), (told[1:], (("a", 0, 2), ("b", 0, 1))))


class GoOn(unittest.TestCase):
    def all_served(self, net, arrivals, done, hour):
        """What all PLANS serve that have all of done and nothing more below hour; None if these are too many."""
        rows = choices(net, range(hour, net[0]))
        most = sum(row[2] for row in arrivals)
        bounds = [min(most, dict((row[0], row[4]) for row in net[2])[name]) if part == 0 else most for part, name, _ in rows]
        many = 1
        for bound in bounds:
            many *= bound + 1
        if many > 4000:
            return None
        found = set()
        for amounts in product(*[range(bound + 1) for bound in bounds]):
            plan = done
            for (part, name, now), amount in zip(rows, amounts):
                if amount:
                    plan = with_entry(plan, part, name, now, amount)
            if good_plan(net, arrivals, plan):
                found.add(served(net, plan))
        return found

    def test_all_plans(self):
        asked, refused = 0, 0
        for chance, net, arrivals, done, hour, wishes, classes, book in cases(9100, 150):
            found = self.all_served(net, arrivals, done, hour)
            if found is None:
                continue
            asked += len(found) > 2
            for taking in product(*[range(max([row[at] for row in found]) + 2) for at in range(len(people(net)))]):
                self.assertIs(can_go_on(net, arrivals, done, hour, taking), taking in found)
                if taking in found:
                    plan = plan_on(net, arrivals, done, hour, taking)
                    self.check_plan(net, arrivals, done, hour, taking, plan)
                    self.assertEqual(plan_on(as_lists(net), as_lists(arrivals), as_lists(done), hour, list(taking)), plan)
                else:
                    refused += 1
                    check_raises(self, CanNot, {}, plan_on, net, arrivals, done, hour, taking)
            for some in parts(people(net)):
                still = max(total_of(net, row, some) for row in found)
                self.assertEqual(missed(net, arrivals, done, hour, some), cover(net, arrivals, some) - still)
        self.assertGreater(asked, 40)
        self.assertGreater(refused, 100)

    def check_plan(self, net, arrivals, done, hour, taking, plan):
        self.assertTrue(good_plan(net, arrivals, plan))
        self.assertEqual(served(net, plan), taking)
        self.assertEqual(tuple(tuple(row for row in part if row[1] < hour) for part in plan), done)

    def test_by_covers(self):
        for chance, net, arrivals, done, hour, wishes, classes, book in cases(9200, 60, 4):
            taken = served(net, done)
            for some in book:
                lost = cover(net, arrivals, some) - total_of(net, taken, some) - book[some]
                self.assertEqual(missed(net, arrivals, done, hour, some), lost)
                self.assertEqual(missed(as_lists(net), as_lists(arrivals), as_lists(done), hour, list(some)), lost)
            for _ in range(6):
                more = tuple(chance.randint(0, book[(name,)] + 1) for name in people(net))
                taking = tuple(one + other for one, other in zip(taken, more))
                self.assertIs(can_go_on(net, arrivals, done, hour, taking), fits(net, book, more))
                for name in people(net):
                    if total_of(net, taken, (name,)):
                        self.assertIs(can_go_on(net, arrivals, done, hour, changed(net, taken, name, -1)), False)

    def test_great(self):
        for seed, (net, arrivals) in enumerate(lively_great(9300, 20)):
            plan = cover_plan(net, arrivals, people(net)[::2])
            taking = served(net, plan)
            for hour in range(net[0]):
                done = tuple(tuple(row for row in part if row[1] < hour) for part in plan)
                later, goods = look_on(net, arrivals, done, hour)
                self.assertEqual((left_net(net, hour), left_arrivals(net, arrivals, done, hour)), (later, goods))
                self.assertIs(can_go_on(net, arrivals, done, hour, taking), True)
                self.check_plan(net, arrivals, done, hour, taking, plan_on(net, arrivals, done, hour, taking))
                self.assertIs(can_go_on(net, arrivals, done, hour, tuple(number + GREAT * GREAT for number in taking)), taking == ())
                self.assertEqual(missed(net, arrivals, done, hour, people(net)[::2]), 0)
                one = ((people(net),) if seed % 2 else ((),) + tuple((name,) for name in people(net)))
                goal = promised(net, arrivals, done, hour, taking, one)
                self.assertEqual(goal, taking)
                self.assertIs(is_next_hour(net, arrivals, done, hour, taking, one, next_hour(net, arrivals, done, hour, taking, one)), True)


class Promised(unittest.TestCase):
    def test_unit_by_unit(self):
        beyond = 0
        for chance, net, arrivals, done, hour, wishes, classes, book in cases(9400, 130, 4):
            taken = served(net, done)
            for told in (wishes, (9,) * len(wishes), taken, (0,) * len(wishes)):
                right = unit_by_unit(net, book, taken, told, classes)
                beyond += any(one > other for one, other in zip(taken, told))
                self.assertEqual(promised(net, arrivals, done, hour, told, classes), right)
                self.assertEqual(promised(as_lists(net), as_lists(arrivals), as_lists(done), hour, list(told), as_lists(classes)), right)
        self.assertGreater(beyond, 20)

    def test_from_nothing(self):
        for at, (net, arrivals, book) in enumerate(lively_nets(9500, 50, 4)):
            chance = random.Random(at)
            wishes, classes = some_wishes(chance, net, book), some_classes(chance, net)
            self.assertEqual(promised(net, arrivals, ((), ()), 0, wishes, classes), class_spread(net, arrivals, wishes, classes))

    def test_who_took_waits(self):
        """Who took first units stands behind those whose first ones come still."""
        net = (2, (("a", 9),), (), (("m", "a", (0, 1)), ("n", "a", (1,)), ("o", "a", (1,))))
        for took, wishes, right in ((2, (9, 9, 9), (3, 3, 2)), (4, (9, 9, 9), (4, 2, 2)), (4, (1, 9, 9), (4, 2, 2)), (1, (5, 1, 9), (4, 1, 3))):
            done = ((), (("m", 0, took),))
            self.assertEqual(promised(net, (("a", 0, 8),), done, 1, wishes, (("m", "n", "o"),)), right)
        wide = (2, (("a", GREAT * 9),), (), net[3])
        done = ((), (("m", 0, 2 * GREAT),))
        self.assertEqual(promised(wide, (("a", 0, 8 * GREAT + 1),), done, 1, (GREAT * 9,) * 3, (("m", "n", "o"),)),
                         (8 * GREAT // 3 + 1, 8 * GREAT // 3 + 1, 8 * GREAT // 3 + 1))
        self.assertEqual(promised(wide, (("a", 0, 8 * GREAT),), done, 1, (GREAT * 9,) * 3, (("o",), ("m", "n"))), (2 * GREAT, 0, 6 * GREAT))
        self.assertEqual(promised(wide, (("a", 0, 8 * GREAT),), done, 1, (9 * GREAT, 5, 7), (("n",), (), ("m", "o"))), (8 * GREAT - 12, 5, 7))

    def test_raised(self):
        raised = 0
        for chance, net, arrivals, done, hour, wishes, classes, book in cases(9600, 80):
            now = promised(net, arrivals, done, hour, wishes, classes)
            for yard, _ in net[1]:
                for when in range(hour, net[0]):
                    goods = {row[:2]: row[2] for row in arrivals}
                    goods[yard, when] = goods.get((yard, when), 0) + 1
                    more = tuple(spot + (goods[spot],) for spot in sorted(goods))
                    later, rows = look_on(net, more, done, hour)
                    then = unit_by_unit(net, cover_book(later, rows), served(net, done), wishes, classes)
                    self.assertIn(sum(then) - sum(now), (0, 1))
                    self.assertTrue(all(one <= other for one, other in zip(now, then)))
                    who = [name for name, one, other in zip(people(net), now, then) if other > one]
                    raised += len(who)
                    told = raised_by(net, arrivals, done, hour, wishes, classes, yard, when)
                    self.assertEqual(told, who[0] if who else None)
                    given = as_lists((net, arrivals, done))
                    self.assertEqual(raised_by(given[0], given[1], given[2], hour, list(wishes), as_lists(classes), yard, when), told)
        self.assertGreater(raised, 50)


class NextHour(unittest.TestCase):
    def can_end(self, net, arrivals, then, hour, goal):
        """Whether one can go on behind this hour to serve the goal, by the COVERS of what is left."""
        if not good_plan(net, arrivals, then):
            return False
        missing = tuple(one - other for one, other in zip(goal, served(net, then)))
        if hour + 1 == net[0] or min(missing + (0,)) < 0:
            return missing == (0,) * len(goal)
        later, goods = look_on(net, arrivals, then, hour + 1)
        return fits(net, cover_book(later, goods), missing)

    def test_there_and_back(self):
        rights, wrongs = 0, 0
        for chance, net, arrivals, done, hour, wishes, classes, book in cases(9700, 80):
            goal = unit_by_unit(net, book, served(net, done), wishes, classes)
            told = next_hour(net, arrivals, done, hour, wishes, classes)
            self.assertTrue(all(row[1] == hour for part in told for row in part))
            self.assertTrue(self.can_end(net, arrivals, put(done, told), hour, goal))
            pairs = [told, ((), ())]
            for _ in range(8):
                own = ((), ())
                for part, name, _ in chance.sample(choices(net, (hour,)), len(choices(net, (hour,)))):
                    if chance.random() < 0.5:
                        own = with_entry(own, part, name, hour, chance.randint(1, 3))
                pairs.append(own)
            for own in pairs:
                bears = all(n <= dict((row[0], row[4]) for row in net[2])[name] for name, _, n in own[0])
                right = bears and self.can_end(net, arrivals, put(done, own), hour, goal)
                rights, wrongs = rights + right, wrongs + (not right)
                self.assertIs(is_next_hour(net, arrivals, done, hour, wishes, classes, own), right)
                self.assertIs(is_next_hour(net, arrivals, done, hour, wishes, classes, list(own)), False)
                given = as_lists((net, arrivals, done))
                self.assertIs(is_next_hour(given[0], given[1], given[2], hour, list(wishes), as_lists(classes), own), right)
        self.assertGreater(min(rights, wrongs), 100)

    def test_the_same_promises_behind_it(self):
        for at, (net, arrivals, book) in enumerate(lively_nets(9800, 60)):
            chance = random.Random(at)
            wishes, classes = some_wishes(chance, net, book), some_classes(chance, net)
            goal, done = class_spread(net, arrivals, wishes, classes), ((), ())
            for hour in range(net[0]):
                self.assertEqual(promised(net, arrivals, done, hour, wishes, classes), goal)
                done = put(done, next_hour(net, arrivals, done, hour, wishes, classes))
            self.assertEqual(served(net, done), goal)

    def test_things(self):
        nothing, wishes = ((), ()), (2, 2, 1)
        for thing in (((("x", 0, 1),), (("m", 0, 1), ("n", 0, 1))), ((), (("m", 0, 1),)), ((("x", 0, 1),), (("m", 0, 1),))):
            self.assertIs(is_next_hour(NET, TWO, nothing, 0, wishes, ONE, thing), thing != ((("x", 0, 1),), (("m", 0, 1),)))
        for thing in ([(), (("m", 0, 1),)], ((), [("m", 0, 1)]), ((), (["m", 0, 1],)), ((), (("m", 0, True),)), ((), (("m", False, 1),)), ((), (("m", 0, 2),)),
                      ((), (("m", 0, 1), ("m", 0, 1))), ((), (("n", 0, 1), ("m", 0, 1))), ((("x", 0, 1),), (("m", 0, 1), ("n", 0, 1)), ()), ((), (("o", 0, 1),)),
                      ((), (("m", 0, 1), ("z", 0, 1))), ((("x", 1, 1),), (("m", 0, 1),)), ((), (("m", 0, 1), ("n", 1, 1))), ((("x", 0, 2),), (("m", 0, 1), ("n", 0, 1))),
                      ((("x", 0, 0),), (("m", 0, 1),)), ((("m", 0, 1),), ()), ((), (("m", 0, 1, 1),)), ((), (("m", 0),)), ((), (("m", 0, 10 ** 5000),))):
            self.assertIs(is_next_hour(NET, TWO, nothing, 0, wishes, ONE, thing), False, thing)
        for thing in STRANGE:
            for told in (thing, ((), thing), (thing, (("m", 0, 1),)), ((), (thing,)), ((), (("m", 0, thing),)), ((), (("m", thing, 1),))):
                right = told in (((), (("m", 0, 1),)),) and not isinstance(told, list) and "True" not in repr(told) and "False" not in repr(told) and "[" not in repr(told)
                self.assertIs(is_next_hour(NET, TWO, nothing, 0, wishes, ONE, told), right, told)
        self.assertIs(is_next_hour(NET, TWO, DONE, 1, wishes, ONE, ((("x", 1, 1),), (("n", 1, 1),))), True)
        self.assertIs(is_next_hour(NET, TWO, DONE, 1, wishes, ONE, ((), (("o", 1, 1),))), False)
        self.assertIs(is_next_hour(NET, TWO, DONE, 1, wishes, ONE, ((), ())), False)
        self.assertIs(is_next_hour(NET, TWO, DONE, 1, (1, 0, 0), ONE, ((), ())), True)
        self.assertIs(is_next_hour(NET, TWO, DONE, 1, (1, 0, 0), ONE, ((("x", 1, 1),), ())), True)


class Days(unittest.TestCase):
    def test_hour_by_hour(self):
        for at, (net, real, book) in enumerate(lively_nets(9900, 70)):
            chance = random.Random(at)
            wishes, classes = some_wishes(chance, net, book), some_classes(chance, net)
            told = tuple(row[:2] + (chance.randint(1, row[2]),) for row in real if chance.random() < 0.7)
            plan = day_by_day(net, real, told, wishes, classes)
            self.assertTrue(good_plan(net, real, plan))
            self.assertEqual(day_by_day(as_lists(net), as_lists(real), as_lists(told), list(wishes), as_lists(classes)), plan)
            last = class_spread(net, told, wishes, classes)
            done = ((), ())
            for hour in range(net[0]):
                known = known_arrivals(real, told, hour)
                now = promised(net, known, done, hour, wishes, classes)
                self.assertTrue(all(one >= other for one, other in zip(now, last)))
                own = tuple(tuple(row for row in part if row[1] == hour) for part in plan)
                self.assertIs(is_next_hour(net, known, done, hour, wishes, classes, own), True)
                done, last = put(done, own), now
            self.assertEqual(done, plan)
            self.assertEqual(served(net, plan), last)
            self.assertEqual(served(net, day_by_day(net, real, real, wishes, classes)), class_spread(net, real, wishes, classes))

    def test_nothing_told(self):
        self.assertEqual(day_by_day(NET, TWO, (), (2, 2, 1), ONE), ((("x", 0, 1),), (("m", 0, 1), ("n", 0, 1))))
        self.assertEqual(day_by_day(NET, (), (), (2, 2, 1), ONE), ((), ()))
        self.assertEqual(day_by_day(BARE, (("a", 0, 3),), (), (), ()), ((), ()))
        wide = (2, (("a", GREAT),), (), (("m", "a", (0, 1)), ("n", "a", (1,))))
        plan = day_by_day(wide, (("a", 0, GREAT), ("a", 1, GREAT)), (("a", 0, GREAT - 1),), (GREAT, GREAT), (("m", "n"),))
        self.assertEqual(served(wide, plan), (GREAT, GREAT))


class Edges(unittest.TestCase):
    def test_nobody(self):
        self.assertEqual((promised(BARE, (), ((), ()), 0, (), ()), can_go_on(BARE, (), ((), ()), 0, ()), plan_on(BARE, (), ((), ()), 0, ())), ((), True, ((), ())))
        self.assertEqual((next_hour(BARE, (), ((), ()), 0, (), ((),)), missed(BARE, (), ((), ()), 0, ())), (((), ()), 0))
        self.assertIsNone(raised_by(BARE, (), ((), ()), 0, (), (), "a", 0))
        self.assertIs(is_next_hour(BARE, (), ((), ()), 0, (), (), ((), ())), True)

    def test_without_hours_or_goods(self):
        net = (3, (("a", 5),), (), (("m", "a", ()), ("n", "a", (0, 2))))
        self.assertEqual(promised(net, (("a", 0, 9),), ((), (("n", 0, 2),)), 1, (GREAT, GREAT), (("m", "n"),)), (0, 7))
        self.assertEqual(promised(net, (("a", 0, 9),), ((), ()), 1, (GREAT, GREAT), (("m", "n"),)), (0, 5))
        self.assertEqual(promised(net, (), ((), ()), 2, (3, 3), (("m",), ("n",))), (0, 0))
        self.assertEqual(missed(net, (("a", 0, 9),), ((), ()), 1, ("n",)), 4)
        self.assertEqual(raised_by(net, (), ((), ()), 2, (3, 3), (("m", "n"),), "a", 2), "n")
        self.assertTrue(can_be(net, (), (0, 0)))


class Wrong(unittest.TestCase):
    def test_no_yard_then_no_number(self):
        for when in (0, 1, -1, 2, GREAT):
            for yard in ("z", "", "m", "x", "A"):
                check_raises(self, NoYard, {"name": yard}, raised_by, NET, TWO, DONE, 1, (2, 2, 1), ONE, yard, when)
            if when != 1:
                check_raises(self, NoNumber, {"number": when}, raised_by, NET, TWO, DONE, 1, (2, 2, 1), ONE, "a", when)
        check_raises(self, NoNumber, {"number": -1}, raised_by, NET, TWO, ((), ()), 0, (2, 2, 1), ONE, "b", -1)
        check_raises(self, NoNumber, {"number": 2}, raised_by, NET, TWO, ((), ()), 0, (2, 2, 1), ONE, "b", 2)

    def test_no_customer(self):
        for some, first in ((("z",), "z"), (("", "m"), ""), (("m", "p", "z"), "p"), (["a"], "a")):
            check_raises(self, NoCustomer, {"name": first}, missed, NET, TWO, DONE, 1, some)

    def test_can_not(self):
        for taking in ((2, 0, 0), (0, 0, 0), (1, 1, 1), (1, 2, 0), (GREAT, GREAT, GREAT), [0, 1, 0]):
            check_raises(self, CanNot, {}, plan_on, NET, TWO, DONE, 1, taking)
            self.assertIs(can_go_on(NET, TWO, DONE, 1, taking), False)
        self.assertEqual(plan_on(NET, TWO, DONE, 1, (1, 0, 0)), DONE)


if __name__ == "__main__":
    unittest.main()
