"""Least spreads against all TAKINGS of small NETS by all levels; rounds given one unit at a time."""

import random
import unittest
from itertools import permutations

from helpers import as_lists, changed, check_raises, fits, lively_great, lively_nets, lively_takings, people, ranks
from helpers import some_classes, some_wishes, total_of

from freightrights.covers import covers, wished_cover
from freightrights.errors import CanNot
from freightrights.spreads import all_least, class_spread, is_least, ladder, least_spread, over, telling_level, unit_move

HUB = (1, (("a", 0), ("b", 0), ("c", 0), ("h", 0)), (("u", "h", "a", 0, 1), ("v", "h", "b", 0, 9), ("w", "h", "c", 0, 9)),
       (("p", "a", (0,)), ("q", "b", (0,)), ("r", "c", (0,))))
SIX = (("h", 0, 6),)
BARE = (1, (("a", 0),), (), ())
GREAT = 10 ** 30


def above(taking, level):
    return sum(number - level for number in taking if number > level)


def best_ones(net, book, takings, wishes):
    within = [row for row in takings if all(number <= wish for number, wish in zip(row, wishes))]
    most = max(sum(row) for row in within)
    return [row for row in within if sum(row) == most]


def least_ones(best):
    """Those that have at each level as little over it as any other one."""
    top = max([max(row + (0,)) for row in best])
    return [one for one in best if all(above(one, level) <= above(other, level) for other in best for level in range(top))]


def in_rounds(net, book, wishes, classes):
    """One unit at a time, class by class, round by round."""
    taking = (0,) * len(people(net))
    for row in classes:
        going = True
        while going:
            going = False
            for name in row:
                more = changed(net, taking, name, 1)
                if fits(net, book, more) and total_of(net, more, (name,)) <= total_of(net, wishes, (name,)):
                    taking = more
                    going = True
    return taking


def cases(seed, many, customers=3, most=60):
    for at, (net, arrivals, book, takings) in enumerate(lively_takings(seed, many, customers, most)):
        chance = random.Random(seed + at)
        for wishes in [some_wishes(chance, net, book) for _ in range(2)] + [(GREAT,) * len(people(net))]:
            yield chance, net, arrivals, book, takings, wishes


class Levels(unittest.TestCase):
    def test_over(self):
        chance = random.Random(7000)
        for _ in range(200):
            row = tuple(chance.randint(0, 6) for _ in range(chance.randint(0, 5)))
            for level in range(9):
                self.assertEqual(over(row, level), above(row, level))
                self.assertEqual(over(list(row), level), above(row, level))
        self.assertEqual((over((GREAT, 5), GREAT - 1), over((GREAT, 5), 0), over((), 0)), (1, GREAT + 5, 0))

    def test_level_by_level(self):
        chance = random.Random(7001)
        told = 0
        for _ in range(1500):
            many = chance.randint(1, 5)
            one = [chance.randint(0, 9) for _ in range(many)]
            other = [chance.randint(0, 9) for _ in range(many)]
            at = chance.randrange(many)
            if sum(one) < sum(other):
                one, other = other, one
            other[at] += sum(one) - sum(other)
            levels = [level for level in range(30) if above(one, level) > above(other, level)]
            told += bool(levels)
            self.assertEqual(telling_level(tuple(one), tuple(other)), levels[0] if levels else None)
            self.assertEqual(telling_level(one, other), levels[0] if levels else None)
            self.assertEqual(telling_level([n * 10 ** 27 for n in one], [n * 10 ** 27 for n in other]) is None, not levels)
        self.assertGreater(told, 300)

    def test_great_levels(self):
        """What is just so much at the level ahead is more at the level told."""
        chance = random.Random(7002)
        for _ in range(500):
            one = [chance.choice([GREAT, GREAT - 1, GREAT // 2, 7, 0, chance.randint(0, GREAT)]) for _ in range(4)]
            other = [chance.randint(0, number) for number in one]
            other[0] += sum(one) - sum(other)
            for left, right in ((one, other), (other, one)):
                level = telling_level(left, right)
                if level is None:
                    self.assertTrue(all(above(left, n) <= above(right, n) for n in left + right))
                else:
                    self.assertGreater(above(left, level), above(right, level))
                    marks = [n for n in left + right if n < level] + [level - 1]
                    self.assertTrue(all(above(left, n) <= above(right, n) for n in marks))
        self.assertEqual(telling_level((GREAT, 0), (GREAT - 1, 1)), 1)
        self.assertEqual(telling_level((2 * GREAT, 0, 0), (GREAT, GREAT, 0)), 1)
        self.assertEqual(telling_level((3 * GREAT, GREAT, GREAT), (2 * GREAT, 2 * GREAT + 1, GREAT - 1)), GREAT + 2)
        self.assertIsNone(telling_level((), ()))
        self.assertIsNone(telling_level((4, 1), (1, 4)))


class Least(unittest.TestCase):
    def test_all_takings(self):
        several = 0
        for chance, net, arrivals, book, takings, wishes in cases(7100, 60):
            best = best_ones(net, book, takings, wishes)
            least = least_ones(best)
            several += len(least) > 1
            self.assertTrue(least)
            self.assertEqual(all_least(net, arrivals, wishes), sorted(least))
            self.assertEqual(all_least(as_lists(net), as_lists(arrivals), list(wishes)), sorted(least))
            for taking in takings:
                self.assertIs(is_least(net, arrivals, wishes, taking), taking in least)
                self.check_move(net, arrivals, wishes, taking, best)
            for rank in ranks(net):
                first = max(least, key=lambda row: [total_of(net, row, (name,)) for name in rank])
                self.assertEqual(least_spread(net, arrivals, wishes, rank), first)
                self.assertEqual(least_spread(as_lists(net), as_lists(arrivals), list(wishes), list(rank)), first)
        self.assertGreater(several, 30)

    def check_move(self, net, arrivals, wishes, taking, best):
        if taking not in best:
            check_raises(self, CanNot, {}, unit_move, net, arrivals, wishes, taking)
            return
        rows = []
        for giver, getter in permutations(people(net), 2):
            new = changed(net, changed(net, taking, giver, -1), getter, 1)
            if new in best and total_of(net, taking, (giver,)) - total_of(net, taking, (getter,)) >= 2:
                rows.append((giver, getter))
        self.assertEqual(unit_move(net, arrivals, wishes, taking), min(rows) if rows else None)
        self.assertEqual(unit_move(net, arrivals, list(wishes), list(taking)), min(rows) if rows else None)

    def test_convex_losses(self):
        """By any loss, each unit more losing at least as much more as the one ahead, no BEST one loses less."""
        for chance, net, arrivals, book, takings, wishes in cases(7200, 20):
            best = best_ones(net, book, takings, wishes)
            steps = sorted(chance.randint(-5, 9) for _ in range(max(max(row + (0,)) for row in best)))
            loss = [sum(steps[:n]) for n in range(len(steps) + 1)]
            lost = {row: sum(loss[n] for n in row) for row in best}
            for row in all_least(net, arrivals, wishes):
                self.assertEqual(lost[row], min(lost.values()))

    def test_not_best(self):
        for taking in ((1, 2, 2), (2, 2, 2), (1, 5, 0), (1, 4, 2), (0, 0, 0), (GREAT, 0, 0), [1, 2, 2]):
            check_raises(self, CanNot, {}, unit_move, HUB, SIX, (9, 4, 9), taking)
            self.assertIs(is_least(HUB, SIX, (9, 4, 9), taking), False)
        self.assertEqual(unit_move(HUB, SIX, (9, 4, 9), (1, 4, 1)), ("q", "r"))
        self.assertIsNone(unit_move(HUB, SIX, (9, 9, 1), (1, 4, 1)))
        self.assertEqual(unit_move(HUB, SIX, (9, 9, 9), (0, 3, 3)), ("q", "p"))
        self.assertIsNone(unit_move(HUB, SIX, (9, 9, 9), (1, 3, 2)))


class Ladders(unittest.TestCase):
    def test_by_all_least(self):
        mixed = 0
        for chance, net, arrivals, book, takings, wishes in list(cases(7300, 60)) + list(cases(7400, 15, 5, 200)):
            least = least_ones(best_ones(net, book, takings, wishes))
            rungs = {}
            for at, name in enumerate(people(net)):
                rungs.setdefault((min(row[at] for row in least), max(row[at] for row in least)), []).append(at)
            rows = []
            for low, high in rungs:
                self.assertIn(high - low, (0, 1))
                more = {sum(row[at] - low for at in rungs[low, high]) for row in least}
                self.assertEqual(len(more), 1)
                rows.append((low, more.pop(), tuple(people(net)[at] for at in rungs[low, high])))
            mixed += any(row[1] for row in rows)
            self.assertEqual(ladder(net, arrivals, wishes), tuple(sorted(rows)))
            self.check_up_to(net, arrivals, wishes, sorted(rows), least[0])
        self.assertGreater(mixed, 30)

    def check_up_to(self, net, arrivals, wishes, rows, taking):
        for at in range(len(rows)):
            some = tuple(sorted(name for row in rows[:at + 1] for name in row[2]))
            self.assertEqual(total_of(net, taking, some), wished_cover(net, arrivals, wishes, some))

    def test_great(self):
        several = 0
        for seed, (net, arrivals) in enumerate(lively_great(7500, 40)):
            chance = random.Random(seed)
            book = dict(covers(net, arrivals))
            wishes = some_wishes(chance, net, book, True)
            rows = ladder(net, arrivals, wishes)
            several += len(rows) > 2
            least = all_least(net, arrivals, wishes)
            self.assertEqual(sorted(name for row in rows for name in row[2]), list(people(net)))
            for taking in least[:6]:
                self.assertTrue(fits(net, book, taking))
                self.assertIs(is_least(net, arrivals, wishes, taking), True)
                self.assertIsNone(unit_move(net, arrivals, wishes, taking))
                self.check_up_to(net, arrivals, wishes, rows, taking)
                own = dict(zip(people(net), taking))
                for level, more, some in rows:
                    self.assertEqual(sum(own[name] - level for name in some), more)
                    self.assertTrue(all(own[name] - level in (0, 1) for name in some))
            rank = tuple(chance.sample(people(net), len(people(net))))
            first = max(least, key=lambda row: [total_of(net, row, (name,)) for name in rank])
            self.assertEqual(least_spread(net, arrivals, wishes, rank), first)
        self.assertGreater(several, 10)

    def test_many_least_ones(self):
        names = "abcdef"
        net = (1, (("h", 0),), (), tuple((name, "h", (0,)) for name in names))
        goods = (("h", 0, 6 * GREAT + 3),)
        rows = all_least(net, goods, (GREAT * 2,) * 6)
        self.assertEqual(len(rows), 20)
        self.assertEqual(rows, sorted(rows))
        self.assertEqual(ladder(net, goods, (GREAT * 2,) * 6), ((GREAT, 3, tuple(names)),))
        self.assertEqual(ladder(net, goods, (GREAT * 2, 5, 5, 0, 7, 1)), ((0, 0, ("d",)), (1, 0, ("f",)), (5, 0, ("b", "c")), (7, 0, ("e",)),
                                                                         (2 * GREAT, 0, ("a",))))


class Classes(unittest.TestCase):
    def test_by_rounds(self):
        for at, (net, arrivals, book) in enumerate(lively_nets(7600, 70, 4)):
            chance = random.Random(at)
            for wishes in [some_wishes(chance, net, book) for _ in range(3)]:
                each = tuple((name,) for name in chance.sample(people(net), len(people(net))))
                for classes in ((people(net),), each, ((),) + each + ((), ()), some_classes(chance, net), some_classes(chance, net)):
                    taking = in_rounds(net, book, wishes, classes)
                    self.assertEqual(class_spread(net, arrivals, wishes, classes), taking)
                    self.assertEqual(class_spread(as_lists(net), as_lists(arrivals), list(wishes), as_lists(classes)), taking)

    def test_one_class(self):
        for chance, net, arrivals, book, takings, wishes in cases(7700, 40):
            taking = class_spread(net, arrivals, wishes, (people(net),))
            self.assertEqual(taking, least_spread(net, arrivals, wishes, people(net)))
            self.assertIs(is_least(net, arrivals, wishes, taking), True)

    def test_great(self):
        """Rounds of 10 ** 27 units each, then of single ones, come to what rounds of one unit come to."""
        for at, (net, arrivals, book) in enumerate(lively_nets(7800, 40, 4)):
            chance = random.Random(at)
            wishes, classes = some_wishes(chance, net, book), some_classes(chance, net)
            wide = (net[0], tuple((name, room * GREAT) for name, room in net[1]), tuple(row[:4] + (row[4] * GREAT,) for row in net[2]), net[3])
            taking = class_spread(wide, tuple(row[:2] + (row[2] * GREAT,) for row in arrivals), [wish * GREAT for wish in wishes], classes)
            for level in {number // GREAT for number in taking}:
                self.assertLessEqual(level, max(wishes))
            great = {some: book[some] * GREAT for some in book}
            self.assertEqual(taking, self.by_parts(net, great, [wish * GREAT for wish in wishes], classes))

    def by_parts(self, net, book, wishes, classes):
        """Rounds in which all get a power of ten each as long as all still in the class can, at last of one unit."""
        got = dict.fromkeys(people(net), 0)

        def can(names, amount):
            new = tuple(got[name] + (amount if name in names else 0) for name in people(net))
            return fits(net, book, new) and all(n <= wish or name not in names for name, n, wish in zip(people(net), new, wishes))

        for row in classes:
            able = list(row)
            while able:
                for power in range(31, -1, -1):
                    while can(able, 10 ** power):
                        for name in able:
                            got[name] += 10 ** power
                for name in list(able):
                    if can([name], 1):
                        got[name] += 1
                    else:
                        able.remove(name)
        return tuple(got[name] for name in people(net))


class Edges(unittest.TestCase):
    def test_nobody(self):
        self.assertEqual((all_least(BARE, (), ()), ladder(BARE, (), ()), least_spread(BARE, (), (), ())), ([()], (), ()))
        self.assertEqual((is_least(BARE, (), (), ()), unit_move(BARE, (), (), ()), class_spread(BARE, (), (), ()), class_spread(BARE, (), (), ((),))),
                         (True, None, (), ()))

    def test_without_hours_or_goods(self):
        net = (2, (("a", 1),), (), (("m", "a", ()), ("n", "a", (0, 1))))
        self.assertEqual(class_spread(net, (("a", 0, GREAT),), (GREAT, GREAT), (("m", "n"),)), (0, GREAT))
        self.assertEqual(ladder(net, (("a", 0, GREAT),), (GREAT, GREAT - 1)), ((0, 0, ("m",)), (GREAT - 1, 0, ("n",))))
        self.assertEqual(ladder(net, (), (3, 3)), ((0, 0, ("m", "n")),))
        self.assertEqual((all_least(net, (), (3, 3)), unit_move(net, (), (3, 3), (0, 0))), ([(0, 0)], None))

    def test_lists_are_new(self):
        first = all_least(HUB, SIX, (9, 9, 9))
        first.clear()
        self.assertEqual(all_least(HUB, SIX, (9, 9, 9)), [(1, 2, 3), (1, 3, 2)])


if __name__ == "__main__":
    unittest.main()
