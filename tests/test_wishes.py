"""Wishes: shares by rounds told anew, what all ROWS of small WISHES give, who takes from whom in them."""

import random
import unittest
from itertools import permutations

from helpers import STRANGE, answered, as_lists, changed, check_raises, lively_great, lively_nets, people, some_classes, some_wishes
from helpers import total_of
from test_spreads import in_rounds

from freightrights.covers import wished_cover
from freightrights.errors import NoCustomer
from freightrights.rows import row_serves
from freightrights.spreads import class_spread
from freightrights.wishes import always_served, better_by, can_take_from, ceiling, harm_by, is_rivalry, least_got, most_got, rival_parts
from freightrights.wishes import rivalry, share_if, use_of, uses_if, wish_more, worse_by

NET = (2, (("a", 1), ("b", 0)), (("x", "a", "b", 0, 1),), (("m", "a", (0,)), ("n", "b", (0, 1)), ("o", "a", (1,))))
TWO, ONE, RANK = (("a", 0, 2),), (("m", "n", "o"),), (("m",), ("n", "o"))
BARE = (1, (("a", 0),), (), ())
GREAT = 10 ** 30


def cases(seed, many, customers=4):
    for at, (net, arrivals, book) in enumerate(lively_nets(seed, many, customers)):
        chance = random.Random(seed + at)
        yield chance, net, arrivals, book, some_wishes(chance, net, book), some_classes(chance, net)


def with_wish(net, wishes, name, number):
    return tuple(number if own == name else wish for own, wish in zip(people(net), wishes))


def little(chance, net, most):
    """WISHES that come to at most so much."""
    wishes = [0] * len(people(net))
    for _ in range(chance.randint(most // 2, most) if wishes else 0):
        wishes[chance.randrange(len(wishes))] += 1
    return tuple(wishes)


def all_rows(net, wishes):
    """All ROWS in which nobody asks more often than it wishes."""
    rows = [()]
    for row in rows:
        rows.extend([row + (name,) for name, wish in zip(people(net), wishes) if row.count(name) < wish])
    return rows


def takings_from(net, book, row):
    """The pairs of a place of the ROW and another customer from whom this request takes."""
    now = answered(net, book, row)[1]
    found = []
    for place in range(len(row)):
        then = answered(net, book, row[:place] + row[place + 1:])[1]
        for name in people(net):
            if name != row[place] and total_of(net, then, (name,)) == total_of(net, now, (name,)) + 1:
                found.append((place, name))
    return found


class Shares(unittest.TestCase):
    def test_by_rounds(self):
        for chance, net, arrivals, book, wishes, classes in cases(7900, 70):
            for name in people(net):
                most = max(total_of(net, in_rounds(net, book, with_wish(net, wishes, name, n), classes), (name,)) for n in range(book[(name,)] + 2))
                self.assertEqual(ceiling(net, arrivals, wishes, classes, name), most)
                self.assertEqual(ceiling(as_lists(net), as_lists(arrivals), list(wishes), as_lists(classes), name), most)
                for number in (0, 1, most - 1, most, most + 1, GREAT):
                    if number >= 0:
                        self.assertEqual(share_if(net, arrivals, wishes, classes, name, number), min(number, most))
                        self.assertEqual(share_if(net, list(arrivals), list(wishes), as_lists(classes), name, number), min(number, most))

    def test_great(self):
        for seed, (net, arrivals) in enumerate(lively_great(8000, 10)):
            chance = random.Random(seed)
            book = {(name,): wished_cover(net, arrivals, (GREAT * 9,) * len(people(net)), (name,)) for name in people(net)}
            wishes, classes = some_wishes(chance, net, book, True), some_classes(chance, net)
            for name in people(net):
                most = ceiling(net, arrivals, wishes, classes, name)
                for number in (most // 2, most, most + 1, 9 * GREAT):
                    self.assertEqual(share_if(net, arrivals, wishes, classes, name, number), min(number, most))

    def test_uses(self):
        helped = 0
        for chance, net, arrivals, book, wishes, classes in cases(8100, 90):
            for told in [some_wishes(chance, net, book) for _ in range(3)] + [wishes]:
                now = in_rounds(net, book, wishes, classes)
                then = tuple(min(one, other) for one, other in zip(in_rounds(net, book, told, classes), wishes))
                better = tuple(name for name, one, other in zip(people(net), now, then) if other > one)
                worse = tuple(name for name, one, other in zip(people(net), now, then) if other < one)
                helped += bool(better and worse)
                for given in ((net, arrivals, wishes, told, classes), as_lists((net, arrivals, wishes, told, classes))):
                    self.assertEqual((uses_if(*given), better_by(*given), worse_by(*given)), (then, better, worse))
                tellers = [name for name, wish, other in zip(people(net), wishes, told) if wish != other]
                self.assertTrue(not better or any(name in worse for name in tellers))
        self.assertGreater(helped, 20)

    def test_use_of(self):
        self.assertEqual(use_of((3, 0, GREAT), (2, 5, GREAT + 1)), (2, 0, GREAT))
        self.assertEqual((use_of([1, 2], [2, 1]), use_of((), ())), ((1, 1), ()))

    def test_one_wish_more(self):
        seen = {}
        for chance, net, arrivals, book, wishes, classes in cases(8200, 90):
            now = in_rounds(net, book, wishes, classes)
            for name in people(net):
                then = in_rounds(net, book, changed(net, wishes, name, 1), classes)
                losing = [own for own, one, other in zip(people(net), now, then) if other < one]
                self.assertLessEqual(sum(abs(one - other) for one, other in zip(now, then)), 2)
                told = (total_of(net, then, (name,)) > total_of(net, now, (name,)), losing[0] if losing else None)
                seen[told[0], told[1] is None] = True
                self.assertEqual(wish_more(net, arrivals, wishes, classes, name), told)
                self.assertEqual(wish_more(as_lists(net), as_lists(arrivals), list(wishes), as_lists(classes), name), told)
                without = in_rounds(net, book, with_wish(net, wishes, name, 0), classes)
                harm = tuple(0 if own == name else other - one for own, one, other in zip(people(net), now, without))
                self.assertTrue(all(number >= 0 for number in harm))
                self.assertEqual(harm_by(net, arrivals, wishes, classes, name), harm)
        self.assertEqual(sorted(seen), [(False, True), (True, False), (True, True)])
        self.assertEqual(harm_by(as_lists(NET), as_lists(TWO), [2, 2, 1], [["m", "n", "o"]], "n"), (0, 0, 1))

    def test_by_class_spread(self):
        for seed, (net, arrivals) in enumerate(lively_great(8300, 10)):
            wishes, classes = (GREAT,) * len(people(net)), some_classes(random.Random(seed), net)
            now = class_spread(net, arrivals, wishes, classes)
            for name in people(net):
                then = class_spread(net, arrivals, with_wish(net, wishes, name, 0), classes)
                harm = tuple(0 if own == name else other - one for own, one, other in zip(people(net), now, then))
                self.assertEqual(harm_by(net, arrivals, wishes, classes, name), harm)


class Rows(unittest.TestCase):
    def test_all_rows(self):
        for at, (net, arrivals, book) in enumerate(lively_nets(8400, 60, 4)):
            wishes = little(random.Random(at), net, 6)
            asks = [name for name, wish in zip(people(net), wishes) for _ in range(wish)]
            served = {row: answered(net, book, row)[1] for row in set(permutations(asks))}
            always = []
            for name in people(net):
                got = [total_of(net, taking, (name,)) for taking in served.values()]
                self.assertEqual(least_got(net, arrivals, wishes, name), min(got))
                self.assertEqual(most_got(net, arrivals, wishes, name), max(got))
                self.assertEqual(least_got(as_lists(net), as_lists(arrivals), list(wishes), name), min(got))
                if min(got) == total_of(net, wishes, (name,)):
                    always.append(name)
            self.assertEqual(always_served(net, arrivals, wishes), tuple(always))
            self.assertEqual(always_served(as_lists(net), as_lists(arrivals), list(wishes)), tuple(always))

    def test_great(self):
        net = (1, (("a", 0),), (), (("m", "a", (0,)), ("n", "a", (0,)), ("o", "a", (0,))))
        goods = (("a", 0, 2 * GREAT),)
        self.assertEqual([least_got(net, goods, (GREAT, GREAT, 5), name) for name in "mno"], [GREAT - 5, GREAT - 5, 0])
        self.assertEqual([most_got(net, goods, (GREAT, GREAT, 5), name) for name in "mno"], [GREAT, GREAT, 5])
        self.assertEqual(always_served(net, goods, (GREAT, GREAT, 0)), ("m", "n", "o"))
        self.assertEqual(rival_parts(net, goods, (GREAT, GREAT, 0)), (("m",), ("n",), ("o",)))
        self.assertEqual(rival_parts(net, goods, (GREAT, GREAT + 1, 0)), (("m", "n"), ("o",)))
        self.assertIs(can_take_from(net, goods, (GREAT, GREAT, 1), "o", "m"), True)


class Rivals(unittest.TestCase):
    def test_parts(self):
        several = 0
        for chance, net, arrivals, book, wishes, classes in cases(8500, 120, 5):
            names = people(net)
            splits = [[]]
            for name in names:
                splits = [split[:k] + [split[k] + (name,)] + split[k + 1:] for split in splits for k in range(len(split))] + \
                         [split + [(name,)] for split in splits]
            total = wished_cover(net, arrivals, wishes, names)
            alone = {some: wished_cover(net, arrivals, wishes, some) for split in splits for some in split}
            right = [split for split in splits if sum(alone[some] for some in split) == total]
            finest = max(right, key=len)
            self.assertEqual(len([split for split in right if len(split) == len(finest)]), 1)
            several += 1 < len(finest) < len(names)
            self.assertEqual(rival_parts(net, arrivals, wishes), tuple(sorted(finest)))
            self.assertEqual(rival_parts(as_lists(net), as_lists(arrivals), list(wishes)), tuple(sorted(finest)))
            for name in names:
                for other in names:
                    both = name != other and any(name in part and other in part for part in finest)
                    self.assertIs(can_take_from(net, arrivals, wishes, name, other), both)
        self.assertGreater(several, 8)

    def test_all_rows(self):
        found = 0
        for at, (net, arrivals, book) in enumerate(lively_nets(8600, 130, 4)):
            wishes = little(random.Random(at), net, 5)
            pairs = {(row[place], other) for row in all_rows(net, wishes) for place, other in takings_from(net, book, row)}
            found += len(pairs)
            for name in people(net):
                for other in people(net):
                    self.assertIs(can_take_from(net, arrivals, wishes, name, other), (name, other) in pairs)
                    told = rivalry(net, arrivals, wishes, name, other)
                    self.assertEqual(told is not None, (name, other) in pairs)
                    self.assertEqual(rivalry(as_lists(net), as_lists(arrivals), list(wishes), name, other), told)
                    if told is not None:
                        self.check_pair(net, arrivals, book, wishes, name, other, told)
        self.assertGreater(found, 40)

    def check_pair(self, net, arrivals, book, wishes, name, other, told):
        row, place = told
        self.assertIsInstance(told, tuple)
        self.assertTrue(all(row.count(own) <= wish for own, wish in zip(people(net), wishes)))
        self.assertEqual(row[place], name)
        self.assertIn((place, other), takings_from(net, book, row))
        self.assertIs(is_rivalry(net, arrivals, wishes, name, other, told), True)
        self.assertIs(is_rivalry(net, arrivals, wishes, name, other, list(told)), False)
        self.assertIs(is_rivalry(net, arrivals, wishes, name, other, (list(row), place)), False)

    def test_twelve(self):
        asked = 0
        for at, (net, arrivals, book) in enumerate(lively_nets(8700, 25, 6)):
            wishes = little(random.Random(at), net, 12)
            for name in people(net):
                for other in people(net):
                    told = rivalry(net, arrivals, wishes, name, other)
                    self.assertEqual(told is not None, can_take_from(net, arrivals, wishes, name, other))
                    if told is not None:
                        asked += 1
                        self.check_pair(net, arrivals, book, wishes, name, other, told)
        self.assertGreater(asked, 30)

    def test_judging(self):
        asked = 0
        for at, (net, arrivals, book) in enumerate(lively_nets(8800, 40, 3)):
            chance = random.Random(at)
            wishes = little(chance, net, 5)
            rows = all_rows(net, changed(net, wishes, people(net)[0], 1) if people(net) else ())
            for row in chance.sample(rows, min(len(rows), 60)):
                own = all(row.count(name) <= wish for name, wish in zip(people(net), wishes))
                pairs = takings_from(net, book, row)
                for place in range(-1, len(row) + 1):
                    for name in people(net):
                        for other in people(net):
                            right = own and 0 <= place < len(row) and row[place] == name and (place, other) in pairs
                            asked += right
                            self.assertIs(is_rivalry(net, arrivals, wishes, name, other, (row, place)), right)
        self.assertGreater(asked, 40)

    def test_things(self):
        self.assertIs(is_rivalry(NET, TWO, (1, 1, 1), "n", "o", (("m", "n", "o"), 1)), True)
        self.assertIs(is_rivalry(NET, TWO, [GREAT, GREAT, GREAT], "n", "o", (("m", "n", "o"), 1)), True)
        for thing in ((("m", "n", "o"), True), (("m", "n", "o"), 0), (("m", "n", "o"), 2), (("m", "n", "o"), 3), (("m", "n", "o"), -2), (("m", "n", "z"), 1),
                      (("m", "n", "o", "o"), 1), (["m", "n", "o"], 1), [("m", "n", "o"), 1], (("m", "n", "o"), 1, 1), (("m", "n", "o"),), (("m", "n", ["o"]), 1),
                      (("m", "n", "o"), "1"), (("m", "n", "o"), None), (("m", "n", "o"), (1,)), ("mno", 1), (("m", "n", None), 1), (1, ("m", "n", "o")),
                      (("m", "n", "o"), 10 ** 5000), (("n", "m", "o"), 0)):
            right = thing == (("n", "m", "o"), 0)
            self.assertIs(is_rivalry(NET, TWO, (1, 1, 1), "n", "o", thing), right, thing)
            self.assertIs(is_rivalry(NET, TWO, (1, 1, 1), "n", "n", thing), False)
        for thing in STRANGE:
            self.assertIs(is_rivalry(NET, TWO, (1, 1, 1), "n", "o", thing), False)
            self.assertIs(is_rivalry(NET, TWO, (1, 1, 1), "n", "o", (thing, 1)), False)
            self.assertIs(is_rivalry(NET, TWO, (1, 1, 1), "n", "o", (("m", "n", "o"), thing)), thing is not True and thing == 1)
        long = ("n",) + ("m",) * 3000
        self.assertIs(is_rivalry(NET, (("a", 0, 1),), (3000, 1, 1), "n", "m", (long, 0)), True)
        self.assertIs(is_rivalry(NET, (("a", 0, 1),), (2999, 1, 1), "n", "m", (long, 0)), False)
        self.assertEqual(row_serves(NET, (("a", 0, 1),), long), (0, 1, 0))


class Edges(unittest.TestCase):
    def test_nobody(self):
        self.assertEqual((uses_if(BARE, (), (), (), ()), better_by(BARE, (), (), (), ((),)), worse_by(BARE, (), (), (), ())), ((), (), ()))
        self.assertEqual((rival_parts(BARE, (), ()), always_served(BARE, (), ())), ((), ()))

    def test_wishes_of_nothing(self):
        self.assertEqual(rival_parts(NET, TWO, (0, 0, 0)), (("m",), ("n",), ("o",)))
        self.assertEqual(always_served(NET, TWO, (0, 0, 0)), ("m", "n", "o"))
        self.assertEqual((share_if(NET, TWO, (0, 0, 0), ONE, "m", GREAT), ceiling(NET, TWO, (0, 0, 0), ONE, "o")), (2, 1))
        self.assertEqual((wish_more(NET, TWO, (0, 0, 0), ONE, "m"), harm_by(NET, TWO, (0, 0, 0), RANK, "m")), ((True, None), (0, 0, 0)))
        self.assertIsNone(rivalry(NET, TWO, (0, 0, 0), "m", "n"))
        self.assertIsNone(rivalry(NET, TWO, (2, 2, 2), "m", "m"))
        self.assertIs(can_take_from(NET, TWO, (2, 2, 2), "m", "m"), False)
        self.assertEqual((ceiling(NET, (), (1, 1, 1), ONE, "m"), wish_more(NET, (), (1, 1, 1), ONE, "m")), (0, (False, None)))


class Wrong(unittest.TestCase):
    def test_no_customer(self):
        for name in ("z", "", "a", "x", "M"):
            for kept, call in ((3, share_if), (0, ceiling), (0, wish_more), (0, harm_by)):
                told = (NET, TWO, (1, 1, 1), ONE, name) + ((kept,) if kept else ())
                check_raises(self, NoCustomer, {"name": name}, call, *told)
            for call in (least_got, most_got):
                check_raises(self, NoCustomer, {"name": name}, call, NET, TWO, (1, 1, 1), name)
            for call in (can_take_from, rivalry):
                check_raises(self, NoCustomer, {"name": name}, call, NET, TWO, (1, 1, 1), name, "y")
                check_raises(self, NoCustomer, {"name": name}, call, NET, TWO, (1, 1, 1), "m", name)
                check_raises(self, NoCustomer, {"name": name}, call, NET, TWO, (1, 1, 1), name, name)
            for thing in STRANGE[::6]:
                check_raises(self, NoCustomer, {"name": name}, is_rivalry, NET, TWO, (1, 1, 1), name, "y", thing)
                check_raises(self, NoCustomer, {"name": name}, is_rivalry, NET, TWO, (1, 1, 1), "m", name, thing)
                check_raises(self, NoCustomer, {"name": name}, is_rivalry, NET, TWO, (1, 1, 1), name, name, thing)


if __name__ == "__main__":
    unittest.main()
