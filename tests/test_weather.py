"""WEATHERS: what is sure in all of them, judged by all WEATHERS of small ARRIVALS, and by COVERS for great ones."""

import random
import unittest
from itertools import product

from helpers import STRANGE, as_lists, check_raises, cover_book, cuts_with_values, fits, lively_great, lively_nets, lowered, parts, people, ranks
from helpers import same, shares, some_wishes, total_of

from freightrights.covers import can_be, cover
from freightrights.errors import NoCustomer
from freightrights.rights import by_rank
from freightrights.weather import breaking, dry_weather, felt_spots, fewest_out, fewest_out_for, is_breaking, is_dry_weather, is_weather
from freightrights.weather import is_worst_weather, sure_cover, sure_shares, surely_can_be, worst_weather

NET = (1, (("p", 0), ("q", 0)), (("x", "p", "q", 0, 2),), (("a", "p", (0,)), ("b", "q", (0,))))
GOODS = (("p", 0, 3), ("q", 0, 1))
BARE = (1, (("a", 0),), (), ())
GREAT = 10 ** 30


def all_weathers(arrivals):
    """All ARRIVALS with as much or less, each with how much stays out."""
    rows = []
    for amounts in product(*[range(row[2] + 1) for row in arrivals]):
        left = tuple(row[:2] + (amount,) for row, amount in zip(arrivals, amounts) if amount > 0)
        rows.append((left, sum(row[2] for row in arrivals) - sum(amounts)))
    return rows


def weather_nets(seed, many, customers=3):
    """NETS with few ARRIVALS, the book of COVERS in each of all their WEATHERS."""
    found = 0
    for net, arrivals, _ in lively_nets(seed, 10 ** 6, customers, 7):
        chance = random.Random(repr(net))
        while len(arrivals) > 5 or len(all_weathers(arrivals)) > 80:
            arrivals = lowered(arrivals, chance.randrange(len(arrivals)))
        yield net, arrivals, [(left, out, cover_book(net, left)) for left, out in all_weathers(arrivals)]
        found += 1
        if found == many:
            return


def mosts_of(arrivals):
    whole = sum(row[2] for row in arrivals)
    return sorted({0, 1, 2, 3, whole - 1, whole, whole + 3} & set(range(whole + 4)))


class Weathers(unittest.TestCase):
    def test_all(self):
        for net, arrivals, books in weather_nets(12000, 12):
            for most in mosts_of(arrivals):
                for left, out, _ in books:
                    self.assertIs(is_weather(arrivals, most, left), out <= most)
                    self.assertIs(is_weather(as_lists(arrivals), most, left), out <= most)
                    self.assertIs(is_weather(arrivals, most, list(left)), False)

    def test_one_sentence_broken(self):
        goods = (("p", 0, 3), ("p", 2, 5), ("q", 1, 1))
        right = (("p", 0, 2), ("p", 2, 5))
        self.assertIs(is_weather(goods, 2, right), True)
        wrong = [(("p", 0, 2), ("p", 2, 4)), (("p", 0, 4), ("p", 2, 5)), (("p", 0, 2), ("p", 1, 5)), (("p", 0, 2), ("p", 2, 5), ("q", 1, 0)),
                 (("p", 2, 5), ("p", 0, 2)), (("p", 0, 2), ("p", 0, 2), ("p", 2, 5)), list(right), (["p", 0, 2], ("p", 2, 5)), (("p", 0, 3), ("p", 2, 5), ("q", True, 1)),
                 (("p", False, 2), ("p", 2, 5)), (("p", 0, 3), ("p", 2, 5), ("q", 1, True)), (("p", 0, 3), ("p", 2, 5), ("r", 1, 1)), (("p", 0, 2), ("p", 2)),
                 (("p", 0, 2), ("p", 2, 5, 1)), (("p", 0, 2), ("p", 2, 5), ()), (("p", 0, 3), ("p", 2, 5), ("q", 1, 2)), (("p", 0, 3), ("p", 2, 5), ("q", 2, 1)),
                 (("p", 0, -1), ("p", 2, 5)), (("p", 0, 1), ("p", 0, 2), ("p", 2, 5)), (("p", 0, None), ("p", 2, 5)), (("p", 0, 2), ("p", 2, 6))]
        for thing in wrong:
            self.assertIs(is_weather(goods, 2, thing), False, thing)
            self.assertIs(is_weather(goods, GREAT, thing), thing == wrong[0], thing)
        for most, truth in ((0, False), (8, False), (9, True), (10, True), (GREAT, True)):
            self.assertIs(is_weather(goods, most, ()), truth)

    def test_strange(self):
        for thing in STRANGE:
            self.assertIs(is_weather(GOODS, 3, thing), False)
            self.assertIs(is_weather((), 3, thing), thing == ())
            self.assertIs(is_weather((("a", 0, 1),), 0, thing), same(thing, (("a", 0, 1),)))
            self.assertIs(is_weather((("a", 0, 1),), 1, (thing,)), same(thing, ("a", 0, 1)))

    def test_great(self):
        goods = (("p", 0, GREAT), ("q", 0, GREAT))
        self.assertIs(is_weather(goods, GREAT, (("q", 0, GREAT),)), True)
        self.assertIs(is_weather(goods, GREAT - 1, (("q", 0, GREAT),)), False)
        self.assertIs(is_weather(goods, GREAT, (("p", 0, GREAT // 2), ("q", 0, GREAT // 2))), True)


class SureCovers(unittest.TestCase):
    def test_all_weathers(self):
        less = 0
        for net, arrivals, books in weather_nets(12100, 40):
            for most in mosts_of(arrivals):
                for some in parts(people(net)):
                    right = min(book[some] for _, out, book in books if out <= most)
                    less += right < books[-1][2][some]
                    self.assertEqual(sure_cover(net, arrivals, most, some), right)
                    self.assertEqual(sure_cover(as_lists(net), as_lists(arrivals), most, list(some)), right)
                    weather = dry_weather(net, arrivals, most, some)
                    self.assertEqual(dry_weather(as_lists(net), as_lists(arrivals), most, list(some)), weather)
                    self.assertEqual([book[some] for left, out, book in books if left == weather and out <= most], [right])
                    for left, out, book in books[most::4]:
                        self.assertIs(is_dry_weather(net, arrivals, most, some, left), out <= most and book[some] == right)
        self.assertGreater(less, 200)

    def test_by_cuts(self):
        """The least, over the CUTS, of the greater one of two values."""
        for net, arrivals, _ in lively_nets(12200, 25, 3, 7):
            arrivals = arrivals[:5]
            goods = {row[:2]: row[2] for row in arrivals}
            for some in parts(people(net)):
                rows = [(number, sum(goods.get(spot, 0) for spot in far)) for far, number in cuts_with_values(net, arrivals, some)]
                for most in (0, 1, 2, 5, 9):
                    self.assertEqual(sure_cover(net, arrivals, most, some), min(max(number - most, number - far) for number, far in rows))

    def test_not_like_covers(self):
        net = (1, (("a", 0), ("b", 0), ("c", 0)), (), (("m", "a", (0,)), ("n", "b", (0,)), ("o", "c", (0,))))
        goods = (("a", 0, 1), ("b", 0, 1), ("c", 0, 1))
        self.assertEqual([sure_cover(net, goods, 2, some) for some in parts("mno")], [0, 0, 0, 1, 0, 0, 0, 0])
        self.assertEqual([surely_can_be(net, goods, 2, taking) for taking in product((0, 1), repeat=3)], [True] + [False] * 7)

    def test_great(self):
        less = 0
        for seed, (net, arrivals) in enumerate(lively_great(12300, 30, 5)):
            chance = random.Random(seed)
            arrivals = tuple(sorted(chance.sample(arrivals, min(5, len(arrivals)))))
            whole = sum(row[2] for row in arrivals)
            for most in (0, 3, GREAT, whole // 2, whole):
                some = tuple(sorted(chance.sample(people(net), chance.randint(0, len(people(net))))))
                sure = sure_cover(net, arrivals, most, some)
                weather = dry_weather(net, arrivals, most, some)
                self.assertIs(is_weather(arrivals, most, weather), True)
                self.assertEqual(cover(net, weather, some), sure)
                self.assertIs(is_dry_weather(net, arrivals, most, some, weather), True)
                self.assertLessEqual(cover(net, arrivals, some) - sure, most)
                less += sure < cover(net, arrivals, some)
                for _ in range(4):
                    other = random_weather(chance, arrivals, most)
                    self.assertGreaterEqual(cover(net, other, some), sure)
                    self.assertIs(is_dry_weather(net, arrivals, most, some, other), cover(net, other, some) == sure)
        self.assertGreater(less, 20)

    def test_things(self):
        self.assertIs(is_dry_weather(NET, GOODS, 2, ("a",), (("p", 0, 1), ("q", 0, 1))), True)
        self.assertIs(is_dry_weather(NET, GOODS, 2, ("a",), (("p", 0, 2),)), False)
        for thing in STRANGE + [[("p", 0, 1), ("q", 0, 1)], (("p", 0, 1), ["q", 0, 1]), (("q", 0, 1),)]:
            self.assertIs(is_dry_weather(NET, GOODS, 2, ("a",), thing), False)
        self.assertIs(is_dry_weather(NET, GOODS, 4, ("a",), ()), True)


def random_weather(chance, arrivals, most):
    """A WEATHER in which as much as can stays out."""
    for at in chance.sample(range(len(arrivals)), len(arrivals)):
        gone = min(most, arrivals[at][2])
        if chance.random() < 0.3:
            gone = gone // 2
        most -= gone
        row = arrivals[at][:2] + (arrivals[at][2] - gone,)
        arrivals = arrivals[:at] + (row,) + arrivals[at + 1:]
    return tuple(row for row in arrivals if row[2] > 0)


class Takings(unittest.TestCase):
    def test_all_weathers(self):
        found = {True: 0, False: 0}
        for net, arrivals, books in weather_nets(12400, 40):
            chance = random.Random(repr(net))
            rows = [some_wishes(chance, net, books[-1][2]) for _ in range(3)]
            rows += [(0,) * len(people(net)), tuple(chance.choice([0, 0, 1]) for _ in people(net)), (GREAT,) * len(people(net))]
            for taking in rows:
                outs = [out for _, out, book in books if not fits(net, book, taking)]
                right = min(outs) if outs else None
                self.assertEqual(fewest_out(net, arrivals, taking), right)
                self.assertEqual(fewest_out(*as_lists((net, arrivals, taking))), right)
                self.assertEqual(right is None, not any(taking))
                for most in mosts_of(arrivals):
                    surely = right is None or right > most
                    found[surely] += 1
                    self.assertIs(surely_can_be(net, arrivals, most, taking), surely)
                    self.assertIs(surely_can_be(as_lists(net), as_lists(arrivals), most, list(taking)), surely)
                    paper = breaking(net, arrivals, most, taking)
                    self.assertEqual(breaking(as_lists(net), as_lists(arrivals), most, list(taking)), paper)
                    self.assertEqual(paper is None, surely)
                    self.check_papers(net, books, arrivals, most, taking, paper)
        self.assertTrue(min(found.values()) > 150, found)

    def check_papers(self, net, books, arrivals, most, taking, paper):
        good = []
        for left, out, book in books[::3]:
            for some in parts(people(net)):
                right = out <= most and total_of(net, taking, some) > book[some]
                self.assertIs(is_breaking(net, arrivals, most, taking, (left, some)), right)
        if paper is not None:
            good = [book for left, out, book in books if left == paper[0] and out <= most]
            self.assertGreater(total_of(net, taking, paper[1]), good[0][paper[1]])
            self.assertIs(is_breaking(net, arrivals, most, taking, paper), True)
            self.assertIs(is_breaking(net, arrivals, most, taking, list(paper)), False)
            self.assertIs(is_breaking(as_lists(net), as_lists(arrivals), most, list(taking), paper), True)

    def test_by_sure_covers(self):
        for net, arrivals, books in weather_nets(12500, 15):
            for most in (1, 3):
                sure = {some: sure_cover(net, arrivals, most, some) for some in parts(people(net))}
                for taking in product(range(3), repeat=len(people(net))):
                    self.assertIs(surely_can_be(net, arrivals, most, taking), fits(net, sure, taking))

    def test_great(self):
        broken = 0
        for seed, (net, arrivals) in enumerate(lively_great(12600, 40, 5)):
            chance = random.Random(seed)
            arrivals = tuple(sorted(chance.sample(arrivals, min(5, len(arrivals)))))
            taking = by_rank(net, arrivals, people(net))
            taking = tuple(number * chance.choice([0, 1, 1, 2]) // 2 for number in taking)
            fewest = fewest_out(net, arrivals, taking)
            self.assertEqual(fewest is None, not any(taking))
            if fewest is not None:
                broken += fewest > 10 ** 20
                self.assertIs(surely_can_be(net, arrivals, fewest, taking), False)
                self.assertIs(is_breaking(net, arrivals, fewest, taking, breaking(net, arrivals, fewest, taking)), True)
                if fewest > 0:
                    self.assertIs(surely_can_be(net, arrivals, fewest - 1, taking), True)
                    self.assertIsNone(breaking(net, arrivals, fewest - 1, taking))
                    self.assertTrue(all(can_be(net, random_weather(chance, arrivals, fewest - 1), taking) for _ in range(6)))
        self.assertGreater(broken, 4)

    def test_more_than_there_is(self):
        self.assertEqual(fewest_out(NET, GOODS, (4, 0)), 0)
        self.assertIs(is_breaking(NET, GOODS, 0, (4, 0), (GOODS, ("a",))), True)
        self.assertIs(is_breaking(NET, GOODS, 0, (4, 0), breaking(NET, GOODS, 0, (4, 0))), True)

    def test_things(self):
        right = ((("p", 0, 2),), ("a", "b"))
        self.assertIs(is_breaking(NET, GOODS, 2, (1, 2), right), True)
        for thing in ([right[0], right[1]], (list(right[0]), right[1]), (right[0], ["a", "b"]), (right[0], ("b", "a")), (right[0], ("a", "a", "b")), right + (1,),
                      right[:1], (right[0], ("a", "z")), (right[0], "ab"), (right[0], ()), ((("p", 0, 2), ("q", 0, 2)), ("a", "b")), (right[0], ("a", None))):
            self.assertIs(is_breaking(NET, GOODS, 2, (1, 2), thing), False, thing)
        for thing in STRANGE:
            self.assertIs(is_breaking(NET, GOODS, 2, (1, 2), thing), False)
            self.assertIs(is_breaking(NET, GOODS, 2, (1, 2), (thing, ("a", "b"))), False)
            self.assertIs(is_breaking(NET, GOODS, 2, (1, 2), (right[0], thing)), thing == ("a", "b"))
            self.assertIs(is_breaking(NET, GOODS, 2, (1, 2), (right[0], (thing, "b"))), thing == "a")


class Shares(unittest.TestCase):
    def test_all_weathers(self):
        less = 0
        for net, arrivals, books in weather_nets(12700, 30):
            for rank in ranks(net):
                for most in mosts_of(arrivals):
                    rows = [(left, out, shares(net, book, rank)) for left, out, book in books]
                    right = tuple(min(row[at] for _, out, row in rows if out <= most) for at in range(len(rank)))
                    self.assertEqual(sure_shares(net, arrivals, most, rank), right)
                    less += right != rows[-1][2]
                    if most == 2:
                        self.assertEqual(sure_shares(as_lists(net), as_lists(arrivals), most, list(rank)), right)
                        self.check_worst(net, arrivals, most, rank, rows, right)
        self.assertGreater(less, 150)

    def check_worst(self, net, arrivals, most, rank, rows, right):
        for at, name in enumerate(people(net)):
            weather = worst_weather(net, arrivals, most, rank, name)
            self.assertEqual(worst_weather(as_lists(net), as_lists(arrivals), most, list(rank), name), weather)
            self.assertEqual([row[at] for left, out, row in rows if left == weather and out <= most], [right[at]])
            for left, out, row in rows:
                self.assertIs(is_worst_weather(net, arrivals, most, rank, name, left), out <= most and row[at] == right[at])
            for number in range(rows[-1][2][at] + 3):
                outs = [out for _, out, row in rows if row[at] < number]
                self.assertEqual(fewest_out_for(net, arrivals, rank, name, number), min(outs) if outs else None)
            self.assertEqual(fewest_out_for(as_lists(net), as_lists(arrivals), list(rank), name, GREAT), 0)

    def test_by_cuts(self):
        """The least, over the CUTS for it and those ahead, of the greater one of two numbers."""
        for net, arrivals, _ in lively_nets(12750, 12, 3, 6):
            arrivals = arrivals[:4]
            goods = {row[:2]: row[2] for row in arrivals}
            for rank in ranks(net)[:3]:
                for most in (0, 1, 3, 6):
                    right = {}
                    for at, name in enumerate(rank):
                        rows = []
                        for far, number in cuts_with_values(net, arrivals, rank[:at + 1]):
                            rest = tuple(row for row in arrivals if row[:2] not in far)
                            dry = number - sum(goods.get(spot, 0) for spot in far) - cover(net, rest, rank[:at])
                            rows.append(max(number - most - cover(net, arrivals, rank[:at]), dry))
                        right[name] = min(rows)
                    self.assertEqual(sure_shares(net, arrivals, most, rank), tuple(right[name] for name in people(net)))

    def test_last_is_worst(self):
        for net, arrivals, books in weather_nets(12800, 12):
            for at, name in enumerate(people(net)):
                rest = tuple(other for other in people(net) if other != name)
                last = sure_shares(net, arrivals, 2, rest + (name,))[at]
                self.assertEqual(last, min(sure_shares(net, arrivals, 2, rank)[at] for rank in ranks(net)))
            for rank in ranks(net):
                self.assertIs(surely_can_be(net, arrivals, 2, sure_shares(net, arrivals, 2, rank)), True)

    def test_never_more(self):
        for net, arrivals, books in weather_nets(12850, 12):
            for rank in ranks(net):
                full = shares(net, books[-1][2], rank)
                for _, _, book in books:
                    self.assertTrue(all(one <= other for one, other in zip(shares(net, book, rank), full)))

    def test_great(self):
        less = 0
        for seed, (net, arrivals) in enumerate(lively_great(12900, 30, 5)):
            chance = random.Random(seed)
            arrivals = tuple(sorted(chance.sample(arrivals, min(5, len(arrivals)))))
            whole = sum(row[2] for row in arrivals)
            rank = tuple(chance.sample(people(net), len(people(net))))
            full = by_rank(net, arrivals, rank)
            for most in (3, GREAT, whole // 2):
                sure = sure_shares(net, arrivals, most, rank)
                less += sure != full
                for at, name in enumerate(people(net)):
                    weather = worst_weather(net, arrivals, most, rank, name)
                    self.assertIs(is_weather(arrivals, most, weather), True)
                    self.assertEqual(by_rank(net, weather, rank)[at], sure[at])
                    self.assertIs(is_worst_weather(net, arrivals, most, rank, name, weather), True)
                    self.assertTrue(sure[at] == full[at] or fewest_out_for(net, arrivals, rank, name, full[at]) <= most)
                    fewest = fewest_out_for(net, arrivals, rank, name, sure[at])
                    self.assertTrue(fewest is None or fewest > most)
                    other = random_weather(chance, arrivals, most)
                    self.assertGreaterEqual(by_rank(net, other, rank)[at], sure[at])
                    self.assertIs(is_worst_weather(net, arrivals, most, rank, name, other), by_rank(net, other, rank)[at] == sure[at])
        self.assertGreater(less, 20)

    def test_things(self):
        right = (("p", 0, 1), ("q", 0, 1))
        self.assertIs(is_worst_weather(NET, GOODS, 2, ("b", "a"), "a", right), True)
        for thing in STRANGE + [list(right), (("p", 0, 1),), (("p", 0, 1), ("q", 0, 1), ("q", 0, 1)), (("q", 0, 1), ("p", 0, 1)), GOODS]:
            self.assertIs(is_worst_weather(NET, GOODS, 2, ("b", "a"), "a", thing), False, thing)


class Felt(unittest.TestCase):
    def test_one_unit_less(self):
        felt_at_all = 0
        for net, arrivals, book in lively_nets(13000, 60, 3, 8, 3):
            for some in parts(people(net)):
                right = tuple(row[:2] for at, row in enumerate(arrivals) if cover_book(net, lowered(arrivals, at))[some] < book[some])
                felt_at_all += 0 < len(right) < len(arrivals)
                self.assertEqual(felt_spots(net, arrivals, some), right)
                self.assertEqual(felt_spots(*as_lists((net, arrivals, some))), right)
        self.assertGreater(felt_at_all, 50)

    def test_far_in_some_narrowest(self):
        for net, arrivals, book in lively_nets(13100, 25):
            for some in parts(people(net)):
                far = {spot for row, number in cuts_with_values(net, arrivals, some) if number == book[some] for spot in row}
                self.assertEqual(felt_spots(net, arrivals, some), tuple(row[:2] for row in arrivals if row[:2] in far))


class Edges(unittest.TestCase):
    def test_nobody_and_nothing(self):
        self.assertEqual((sure_cover(BARE, (), 0, ()), dry_weather(BARE, (), 3, ()), surely_can_be(BARE, (), 3, ()), fewest_out(BARE, (), ())), (0, (), True, None))
        self.assertEqual((breaking(BARE, (), 3, ()), sure_shares(BARE, (("a", 0, 2),), 1, ()), felt_spots(BARE, (("a", 0, 2),), ())), (None, (), ()))
        self.assertIs(is_weather((), 0, ()), True)
        self.assertIs(is_dry_weather(BARE, (("a", 0, 2),), 2, (), (("a", 0, 1),)), True)

    def test_no_hours(self):
        net = (2, (("a", 3),), (), (("m", "a", ()), ("n", "a", (1,))))
        goods = (("a", 0, 2), ("a", 1, 2))
        self.assertEqual((sure_cover(net, goods, 1, ("m",)), sure_shares(net, goods, 1, ("m", "n")), fewest_out_for(net, goods, ("m", "n"), "m", 1)), (0, (0, 3), 0))
        self.assertIsNone(fewest_out_for(net, goods, ("m", "n"), "m", 0))
        self.assertEqual((fewest_out(net, goods, (0, 4)), fewest_out(net, goods, (1, 0)), fewest_out(net, goods, (0, 1))), (1, 0, 4))

    def test_most_of_nothing_and_of_more_than_all(self):
        self.assertEqual([sure_cover(NET, GOODS, most, ("a", "b")) for most in (0, 1, 3, 4, 5, GREAT)], [4, 3, 1, 0, 0, 0])
        self.assertEqual([dry_weather(NET, GOODS, most, ("a", "b")) for most in (0, 4, GREAT)], [GOODS, (), ()])
        self.assertEqual(sure_shares(NET, GOODS, 0, ("a", "b")), by_rank(NET, GOODS, ("a", "b")))
        self.assertEqual(sure_shares(NET, GOODS, GREAT, ("a", "b")), (0, 0))
        self.assertEqual(sure_shares(NET, (), 3, ("a", "b")), (0, 0))

    def test_line_in_the_way(self):
        """What a line bears is what counts until less than that arrives."""
        net = (1, (("p", 0), ("q", 0)), (("x", "p", "q", 0, 2),), (("b", "q", (0,)),))
        goods = (("p", 0, GREAT),)
        self.assertEqual([sure_cover(net, goods, most, ("b",)) for most in (0, GREAT - 2, GREAT - 1, GREAT)], [2, 2, 1, 0])
        self.assertEqual((fewest_out(net, goods, (2,)), fewest_out(net, goods, (1,)), fewest_out(net, goods, (3,))), (GREAT - 1, GREAT, 0))
        self.assertEqual([fewest_out_for(net, goods, ("b",), "b", number) for number in (0, 1, 2, 3)], [None, GREAT, GREAT - 1, 0])

    def test_those_ahead_may_lose_as_well(self):
        """What stays out may hit those ahead alone: then the one behind has as much as without it."""
        net = (1, (("p", 0), ("q", 0)), (("x", "p", "q", 0, 1),), (("a", "p", (0,)), ("b", "q", (0,))))
        goods = (("p", 0, 2), ("q", 0, 2))
        for rank in (("a", "b"), ("b", "a")):
            for most in range(6):
                rows = [by_rank(net, left, rank) for left, out in all_weathers(goods) if out <= most]
                self.assertEqual(sure_shares(net, goods, most, rank), tuple(min(row[at] for row in rows) for at in (0, 1)))


class Wrong(unittest.TestCase):
    def test_no_customer(self):
        for some, first in ((("z",), "z"), (("a", "z"), "z"), (("", "a"), ""), (("p", "q"), "p"), (["x"], "x")):
            check_raises(self, NoCustomer, {"name": first}, sure_cover, NET, GOODS, 2, some)
            check_raises(self, NoCustomer, {"name": first}, dry_weather, NET, GOODS, 2, some)
            check_raises(self, NoCustomer, {"name": first}, felt_spots, NET, GOODS, some)
            for thing in STRANGE[::5] + [GOODS]:
                check_raises(self, NoCustomer, {"name": first}, is_dry_weather, NET, GOODS, 2, some, thing)
        for name in ("z", "", "p", "x", "A"):
            check_raises(self, NoCustomer, {"name": name}, worst_weather, NET, GOODS, 2, ("a", "b"), name)
            check_raises(self, NoCustomer, {"name": name}, fewest_out_for, NET, GOODS, ("a", "b"), name, 0)
            for thing in STRANGE[::5] + [GOODS]:
                check_raises(self, NoCustomer, {"name": name}, is_worst_weather, NET, GOODS, 2, ["a", "b"], name, thing)


if __name__ == "__main__":
    unittest.main()
