"""SITES: how much of one is needed, by how much it is idle, which can go."""

import random
import unittest
from itertools import combinations, product

from helpers import STRANGE, all_spots, as_lists, chance_net, check_raises, cover_book, cuts_with_values, fits, great_nets, lively_great, lively_nets
from helpers import parts, people, ranks, some_wishes, total_of, value

from freightrights.betters import can_go, gone_by_turns, helpers_alone, idle_by, idle_sites, is_narrow_without, least_kept, most_gone
from freightrights.betters import narrow_without, need_alone, site_most, uses_of, who_feels, with_site
from freightrights.covers import all_takings, can_be, covers, same_covers
from freightrights.errors import NoLine, NoYard
from freightrights.nets import is_net, line_of, room_of
from freightrights.rights import by_rank_wished

NET = (3, (("d", 0), ("m", 1)), (("q", "m", "d", 1, 5), ("r", "m", "d", 0, 2)), (("x", "d", (0, 1, 2)), ("y", "m", (1,))))
GOODS = (("m", 0, 3),)
BARE = (1, (("a", 0),), (), ())
GREAT = 10 ** 30


def sites_of(net):
    return [("line", row[0]) for row in net[2]] + [("yard", row[0]) for row in net[1]]


def set_to(net, site, number):
    """The NET with this most of the SITE, put together anew."""
    yards = tuple((name, number if site == ("yard", name) else room) for name, room in net[1])
    lines = tuple(row[:4] + (number if site == ("line", row[0]) else row[4],) for row in net[2])
    return (net[0], yards, lines, net[3])


def uses(net, site, far):
    """How often these spots use the SITE: by how much their value grows with its most."""
    return value(set_to(net, site, 1), (), far) - value(set_to(net, site, 0), (), far)


def least_number(call, most):
    """The least number up to most for which the call is true; None if there is none. All above it are true, too."""
    rows = [call(number) for number in range(most + 1)]
    assert rows == sorted(rows)
    return rows.index(True) if True in rows else None


def set_all(net, sites):
    for site in sites:
        net = set_to(net, site, 0)
    return net


class Sites(unittest.TestCase):
    def test_most_and_with(self):
        for net, _ in great_nets(11000, 40):
            for site in sites_of(net):
                own = line_of(net, site[1])[3] if site[0] == "line" else room_of(net, site[1])
                self.assertEqual((site_most(net, site), site_most(as_lists(net), list(site))), (own, own))
                for number in (0, 1, 7, GREAT, 10 ** 90):
                    new = with_site(net, site, number)
                    self.assertEqual((new, site_most(new, site)), (set_to(net, site, number), number))
                    self.assertEqual(with_site(as_lists(net), list(site), number), new)
                    self.assertTrue(is_net(new))

    def test_uses(self):
        chance = random.Random(3)
        used = set()
        for net, _ in great_nets(11100, 60):
            rows = [(), tuple(all_spots(net))]
            rows += [tuple(spot for spot in all_spots(net) if chance.random() < 0.5) for _ in range(6)]
            for site in sites_of(net):
                for far in rows:
                    self.assertEqual(uses_of(net, site, far), uses(net, site, far))
                    self.assertEqual(uses_of(as_lists(net), list(site), as_lists(far)), uses(net, site, far))
                    used.add((site[0], uses(net, site, far)))
        self.assertLessEqual({("line", 0), ("line", 1), ("line", 2), ("line", 3), ("yard", 0), ("yard", 1), ("yard", 2)}, used)


class Needs(unittest.TestCase):
    def test_number_by_number(self):
        found = {True: 0, False: 0, None: 0}
        for net, arrivals, book in lively_nets(11200, 60):
            chance = random.Random(repr(net))
            most = sum(row[2] for row in arrivals) + 2
            for site in sites_of(net):
                books = [cover_book(set_to(net, site, number), arrivals) for number in range(most + 1)]
                for wishes in [some_wishes(chance, net, book) for _ in range(3)] + [(0,) * len(people(net)), (1,) * len(people(net))]:
                    right = least_number(lambda number: fits(net, books[number], wishes), most)
                    self.assertEqual(need_alone(net, arrivals, wishes, site), right)
                    self.assertEqual(need_alone(*as_lists((net, arrivals, wishes, site))), right)
                    found[None if right is None else right < site_most(net, site)] += 1
                    paper = narrow_without(net, arrivals, wishes, site)
                    self.assertEqual(paper is None, right is not None)
                    if paper is not None:
                        self.check_paper(net, arrivals, wishes, site, paper)
        self.assertTrue(all(many > 100 for many in found.values()), found)

    def check_paper(self, net, arrivals, wishes, site, paper):
        some, far = paper
        self.assertIn((far, value(net, arrivals, set(far))), cuts_with_values(net, arrivals, some))
        self.assertEqual(uses(net, site, far), 0)
        self.assertLess(value(net, arrivals, far), total_of(net, wishes, some))
        self.assertIs(is_narrow_without(net, arrivals, wishes, site, paper), True)
        self.assertIs(is_narrow_without(*as_lists((net, arrivals, wishes, site)), paper), True)
        self.assertEqual(narrow_without(*as_lists((net, arrivals, wishes, site))), paper)

    def test_papers(self):
        """Each set with each CUT for it, and with sets of spots that are none for it."""
        right_at_all = 0
        for net, arrivals, book in lively_nets(11300, 25, 3, 6):
            wishes = some_wishes(random.Random(repr(net)), net, book)
            spots = all_spots(net)
            fars = [far for many in range(len(spots) + 1) for far in combinations(sorted(spots), many)]
            for site in sites_of(net)[::2]:
                rights = []
                for some in parts(people(net)):
                    good = {far for far, number in cuts_with_values(net, arrivals, some)
                            if uses(net, site, far) == 0 and number < total_of(net, wishes, some)}
                    for far in fars:
                        self.assertIs(is_narrow_without(net, arrivals, wishes, site, (some, far)), far in good)
                    rights += [(some, far) for far in good]
                right_at_all += bool(rights)
                self.assertEqual(narrow_without(net, arrivals, wishes, site) is None, not rights)
        self.assertGreater(right_at_all, 20)

    def test_helpers(self):
        for net, arrivals, book in lively_nets(11400, 40, 4):
            chance = random.Random(repr(net))
            for wishes in (some_wishes(chance, net, book), some_wishes(chance, net, book), (0,) * len(people(net))):
                rows = [(site, need_alone(net, arrivals, wishes, site)) for site in sites_of(net)]
                right = tuple(row for row in rows if row[1] is not None)
                self.assertEqual(helpers_alone(net, arrivals, wishes), right)
                self.assertEqual(helpers_alone(*as_lists((net, arrivals, wishes))), right)
                self.assertEqual(right, tuple(sorted(right)))
                if fits(net, book, wishes):
                    self.assertEqual(len(right), len(sites_of(net)))

    def test_great(self):
        """With one less the WISHES cannot be, with this number they can."""
        found = 0
        for net, arrivals in lively_great(11500, 60):
            chance = random.Random(repr(net))
            book = dict(covers(net, arrivals))
            for wishes in [some_wishes(chance, net, book, True) for _ in range(3)]:
                for site in sites_of(net):
                    number = need_alone(net, arrivals, wishes, site)
                    if number is None:
                        self.assertFalse(can_be(set_to(net, site, 10 ** 40), arrivals, wishes))
                        paper = narrow_without(net, arrivals, wishes, site)
                        self.assertIs(is_narrow_without(net, arrivals, wishes, site, paper), True)
                        continue
                    found += number > 10 ** 20
                    self.assertIsNone(narrow_without(net, arrivals, wishes, site))
                    self.assertTrue(can_be(set_to(net, site, number), arrivals, wishes))
                    self.assertFalse(number > 0 and can_be(set_to(net, site, number - 1), arrivals, wishes))
        self.assertGreater(found, 4)

    def test_shared_by_hours(self):
        """One line or room serves several hours: what is missing is shared by them, rounded up."""
        net = (4, (("a", 0), ("b", GREAT)), (("x", "a", "b", 1, 0),), (("m", "b", (3,)),))
        many = GREAT // 4
        goods = (("a", 0, many), ("a", 1, many), ("a", 2, many))
        for wish, most in ((0, 0), (1, 1), (2, 1), (3, 1), (4, 2), (3 * many - 1, many), (3 * many, many), (3 * many + 1, None)):
            self.assertEqual(need_alone(net, goods, (wish,), ("line", "x")), most)
        uneven = (("a", 0, 3), ("a", 1, many), ("a", 2, 10))
        for wish, most in ((9, 3), (10, 4), (11, 4), (12, 5), (23, 10), (24, 11), (3 + 10 + many, many), (14 + many, None)):
            self.assertEqual(need_alone(net, uneven, (wish,), ("line", "x")), most)
        self.assertEqual(narrow_without(net, uneven, (14 + many,), ("line", "x"))[0], ("m",))
        waits = (3, (("a", GREAT),), (), (("m", "a", (2,)),))
        self.assertEqual(need_alone(waits, (("a", 0, 5), ("a", 1, 2)), (7,), ("yard", "a")), 7)
        self.assertEqual(need_alone(waits, (("a", 0, 5), ("a", 1, 2)), (5,), ("yard", "a")), 5)

    def test_things(self):
        r = ("line", "r")
        right = (("y",), (("m", 1),))
        self.assertIs(is_narrow_without(NET, GOODS, (1, 2), r, right), True)
        self.assertIs(is_narrow_without(NET, GOODS, (1, 2), ("yard", "m"), right), False)
        wide = (("x", "y"), tuple(sorted(all_spots(NET))))
        self.assertIs(is_narrow_without(NET, GOODS, (1, 2), r, wide), False)
        self.assertIs(is_narrow_without(NET, GOODS, (2, 2), r, wide), True)
        far = (("m", 1),)
        for thing in ([("y",), far], (["y"], far), (("y",), [("m", 1)]), (("y",), (["m", 1],)), (("y", "y"), far), (("x", "y"), far), (("y", "x"), far),
                      (("y",), (("m", 1), ("m", 1))), (("y",), (("m", 3),)), (("y",), ()), (("y",), (("m", True),)), ((), far), ((), ()), (("z",), far),
                      ("y", far), (("y",), far, ()), (("y",),), (("y",), (("n", 1),)), (("y",), (("m", 2), ("m", 1))), (("y", None), far)):
            self.assertIs(is_narrow_without(NET, GOODS, (1, 2), r, thing), False, thing)
        for thing in STRANGE:
            self.assertIs(is_narrow_without(NET, GOODS, (1, 2), r, thing), False)
            self.assertIs(is_narrow_without(NET, GOODS, (1, 2), r, (thing, far)), False)
            self.assertIs(is_narrow_without(NET, GOODS, (1, 2), r, (("y",), thing)), False)
            self.assertIs(is_narrow_without(NET, GOODS, (1, 2), r, (("y",), (thing,))), False)
            self.assertIs(is_narrow_without(NET, GOODS, (1, 2), r, ((thing,), far)), False)


class Idle(unittest.TestCase):
    def test_number_by_number(self):
        between = 0
        for net, arrivals, book in lively_nets(11600, 60, 4):
            idle = []
            for site in sites_of(net):
                own = site_most(net, site)
                right = least_number(lambda number: cover_book(set_to(net, site, number), arrivals) == book, own)
                self.assertEqual(least_kept(net, arrivals, site), right)
                self.assertEqual(idle_by(net, arrivals, site), own - right)
                self.assertEqual(least_kept(*as_lists((net, arrivals, site))), right)
                self.assertEqual(idle_by(*as_lists((net, arrivals, site))), own - right)
                idle += [site] if right == 0 else []
                between += 0 < right < own
            self.assertEqual(idle_sites(net, arrivals), tuple(idle))
            self.assertEqual(idle_sites(as_lists(net), as_lists(arrivals)), tuple(idle))
        self.assertGreater(between, 10)

    def test_great(self):
        """With one less some COVER is less, with this number none is."""
        found = 0
        for net, arrivals in lively_great(11700, 30, 5):
            for site in sites_of(net):
                number = least_kept(net, arrivals, site)
                found += number > 10 ** 20
                self.assertTrue(same_covers(net, arrivals, set_to(net, site, number), arrivals))
                if number > 0:
                    self.assertFalse(same_covers(net, arrivals, set_to(net, site, number - 1), arrivals))
                self.assertEqual(idle_by(net, arrivals, site), site_most(net, site) - number)
                self.assertEqual(site in idle_sites(net, arrivals), number == 0)
        self.assertGreater(found, 10)

    def test_several_hours(self):
        """What comes in all hours together decides, not what is carried in one."""
        net = (3, (("a", GREAT), ("b", GREAT)), (("x", "a", "b", 0, GREAT),), (("m", "b", (2,)),))
        self.assertEqual(least_kept(net, (("a", 0, 9),), ("line", "x")), 0 + 3)
        self.assertEqual(least_kept(net, (("a", 0, GREAT), ("a", 1, 7), ("a", 2, 9)), ("line", "x")), -(-(GREAT + 16) // 3))
        self.assertEqual(least_kept(net, (), ("line", "x")), 0)


class Going(unittest.TestCase):
    def test_all_sets(self):
        felt_at_all = 0
        for net, arrivals, book in lively_nets(11800, 40, 4, 7):
            chance = random.Random(repr(net))
            sites = sorted(chance.sample(sites_of(net), min(len(sites_of(net)), 5)))
            able = []
            for some in parts(sites):
                less = cover_book(set_all(net, some), arrivals)
                felt = sorted((len(row), row) for row in book if less[row] < book[row])
                felt_at_all += bool(felt)
                self.assertEqual(can_go(net, arrivals, some), not felt)
                self.assertEqual(can_go(*as_lists((net, arrivals, some))), not felt)
                self.assertEqual(who_feels(net, arrivals, some), felt[0][1] if felt else ())
                self.assertEqual(who_feels(*as_lists((net, arrivals, some))), felt[0][1] if felt else ())
                able += [] if felt else [some]
            best = min(able, key=lambda row: (-len(row), row))
            self.assertEqual(most_gone(net, arrivals, sites), best)
            self.assertEqual(most_gone(*as_lists((net, arrivals, tuple(sites)))), best)
            self.check_turns(net, arrivals, chance.sample(sites, len(sites)), able)
        self.assertGreater(felt_at_all, 150)

    def check_turns(self, net, arrivals, order, able):
        gone = []
        for site in order:
            if tuple(sorted(gone + [site])) in able:
                gone.append(site)
        self.assertEqual(gone_by_turns(net, arrivals, tuple(order)), tuple(gone))
        self.assertEqual(gone_by_turns(*as_lists((net, arrivals, order))), tuple(gone))

    def test_least_of_several(self):
        chosen = 0
        for seed in range(12030, 12400):
            net, arrivals = chance_net(seed, 3, 3, 6, 3)
            sites = sites_of(net)[:5]
            if len(net[2]) > 1 and arrivals and people(net):
                able = [some for some in parts(sites) if can_go(net, arrivals, some)]
                best = [some for some in able if len(some) == max(map(len, able))]
                chosen += len(best) > 1
                self.assertEqual(most_gone(net, arrivals, sites), min(best))
        self.assertGreater(chosen, 4)

    def test_fewest_then_least(self):
        """Two yards with a customer each and one with two: who feels what is missing."""
        net = (2, (("a", 1), ("b", 1), ("c", 1)), (), (("m", "c", (1,)), ("n", "b", (1,)), ("o", "a", (1,))))
        goods = (("a", 0, 1), ("b", 0, 1), ("c", 0, 1))
        self.assertEqual(who_feels(net, goods, (("yard", "a"), ("yard", "b"))), ("n",))
        self.assertEqual(who_feels(net, goods, (("yard", "a"), ("yard", "b"), ("yard", "c"))), ("m",))
        two = (1, (("a", 0), ("b", 0)), (("x", "a", "b", 0, 1),), (("m", "a", (0,)), ("n", "b", (0,))))
        self.assertEqual(who_feels(two, (("a", 0, 2),), (("line", "x"),)), ("n",))
        self.assertEqual(who_feels(two, (("a", 0, 1), ("b", 0, 1)), (("line", "x"),)), ("n",))
        both = (1, (("a", 0), ("b", 0), ("c", 0), ("d", 0)), (("u", "c", "a", 0, 1), ("v", "d", "b", 0, 1), ("w", "c", "b", 0, 1)),
                (("m", "a", (0,)), ("n", "b", (0,))))
        self.assertEqual(who_feels(both, (("c", 0, 1), ("d", 0, 1)), (("line", "v"),)), ("n",))
        self.assertEqual(who_feels(both, (("b", 0, 0 + 1), ("c", 0, 1)), (("line", "w"),)), ("n",))

    def test_felt_by_two_together(self):
        """Each alone has a way still; both together have not."""
        net = (1, (("a", 0), ("b", 0), ("c", 0), ("s", 0), ("t", 0)),
               (("k", "s", "a", 0, 1), ("l", "s", "c", 0, 1), ("q", "t", "c", 0, 1), ("w", "c", "b", 0, 1)), (("m", "a", (0,)), ("n", "b", (0,))))
        goods = (("s", 0, 1), ("t", 0, 1))
        self.assertEqual((can_go(net, goods, (("line", "q"),)), who_feels(net, goods, (("line", "q"),))), (False, ("m", "n")))
        self.assertEqual((can_go(net, goods[:1], (("line", "q"),)), who_feels(net, goods[:1], (("line", "q"),))), (True, ()))
        self.assertEqual(who_feels(net, goods, (("line", "k"), ("line", "q"))), ("m",))
        self.assertEqual(who_feels(net, goods, (("line", "l"), ("line", "q"))), ("n",))

    def test_great(self):
        for net, arrivals in lively_great(11900, 12, 5):
            sites = sites_of(net)[:5]
            gone = most_gone(net, arrivals, sites)
            self.assertTrue(can_go(net, arrivals, gone) and set(gone) <= set(sites))
            for site in set(sites) - set(gone):
                self.assertFalse(can_go(net, arrivals, sorted(gone + (site,))))
            turns = gone_by_turns(net, arrivals, sites_of(net)[::-1])
            self.assertTrue(can_go(net, arrivals, sorted(turns)))
            self.assertLessEqual(set(turns), set(idle_sites(net, arrivals)))
            self.assertEqual(who_feels(net, arrivals, sorted(turns)), ())

    def test_parts_can_go(self):
        for net, arrivals, _ in lively_nets(11950, 20, 4, 7):
            gone = gone_by_turns(net, arrivals, sites_of(net))
            for some in parts(gone):
                self.assertTrue(can_go(net, arrivals, some))

    def test_same_covers_same_rights(self):
        """SITES can go exactly if the same TAKINGS can be, and exactly if by each RANK with all WISHES all get the same."""
        found = {True: 0, False: 0}
        for net, arrivals, book in lively_nets(11970, 40, 3, 7):
            chance = random.Random(repr(net))
            if max(book.values()) > 6:
                continue
            for sites in [tuple(sorted(chance.sample(sites_of(net), min(many, len(sites_of(net)))))) for many in (1, 1, 2)]:
                new = set_all(net, sites)
                go = can_go(net, arrivals, sites)
                found[go] += 1
                self.assertEqual(all_takings(net, arrivals) == all_takings(new, arrivals), go)
                wishes = list(product(*[range(book[(name,)] + 1) for name in people(net)]))
                pairs = [(rank, row) for rank in ranks(net) for row in wishes[::3] + wishes[-1:]]
                same = [by_rank_wished(net, arrivals, row, rank) == by_rank_wished(new, arrivals, row, rank) for rank, row in pairs]
                self.assertEqual(all(same), go)
        self.assertTrue(min(found.values()) > 10, found)


class Edges(unittest.TestCase):
    def test_nobody(self):
        site = ("yard", "a")
        self.assertEqual((site_most(BARE, site), need_alone(BARE, (), (), site), narrow_without(BARE, (), (), site)), (0, 0, None))
        self.assertEqual((helpers_alone(BARE, (), ()), least_kept(BARE, (("a", 0, 3),), site)), (((site, 0),), 0))
        self.assertEqual((idle_sites(BARE, ()), can_go(BARE, (), (site,)), who_feels(BARE, (), (site,))), ((site,), True, ()))
        self.assertEqual((gone_by_turns(BARE, (), (site,)), most_gone(BARE, (), (site,)), uses_of(BARE, site, ())), ((site,), (site,), 0))

    def test_no_sites(self):
        self.assertEqual((can_go(NET, GOODS, ()), who_feels(NET, GOODS, ()), gone_by_turns(NET, GOODS, ()), most_gone(NET, GOODS, ())), (True, (), (), ()))

    def test_no_hours_no_arrivals(self):
        net = (2, (("a", 3), ("b", 0)), (("x", "a", "b", 1, 4),), (("m", "b", ()), ("n", "b", (1,))))
        self.assertEqual(need_alone(net, (("a", 0, 9),), (0, 9), ("line", "x")), 9)
        self.assertIsNone(need_alone(net, (("a", 0, 9),), (1, 0), ("line", "x")))
        self.assertEqual(narrow_without(net, (("a", 0, 9),), (1, 0), ("line", "x"))[0], ("m",))
        self.assertEqual(need_alone(net, (), (0, 0), ("yard", "a")), 0)
        self.assertIsNone(need_alone(net, (), (0, 1), ("yard", "a")))
        self.assertEqual(idle_sites(net, ()), (("line", "x"), ("yard", "a"), ("yard", "b")))

    def test_same_names(self):
        """A line and a yard of one NAME are two SITES."""
        net = (2, (("a", 3), ("b", 0)), (("a", "a", "b", 1, 4),), (("m", "b", (1,)), ("n", "a", (1,))))
        self.assertEqual((site_most(net, ("line", "a")), site_most(net, ("yard", "a"))), (4, 3))
        self.assertEqual((uses_of(net, ("line", "a"), (("b", 1),)), uses_of(net, ("yard", "a"), (("b", 1),))), (1, 0))
        self.assertEqual((least_kept(net, (("a", 0, 2),), ("line", "a")), least_kept(net, (("a", 0, 5),), ("yard", "a"))), (2, 3))
        self.assertEqual(who_feels(net, (("a", 0, 2),), (("line", "a"),)), ("m",))
        self.assertEqual(who_feels(net, (("a", 0, 2),), (("yard", "a"),)), ("n",))


class Wrong(unittest.TestCase):
    def test_no_site(self):
        for site, error in ((("line", "m"), NoLine), (("line", ""), NoLine), (("line", "x"), NoLine), (("yard", "q"), NoYard), (("yard", "Z"), NoYard),
                            (["yard", "y"], NoYard)):
            kept = {"name": site[1]}
            check_raises(self, error, kept, site_most, NET, site)
            check_raises(self, error, kept, with_site, NET, site, 1)
            check_raises(self, error, kept, uses_of, NET, site, ())
            for wishes in ((1, 2), (0, 0), (9, 9)):
                check_raises(self, error, kept, need_alone, NET, GOODS, wishes, site)
                check_raises(self, error, kept, narrow_without, NET, GOODS, wishes, site)
                for thing in STRANGE[::5] + [(("y",), (("m", 1),))]:
                    check_raises(self, error, kept, is_narrow_without, NET, GOODS, wishes, site, thing)
            check_raises(self, error, kept, least_kept, NET, GOODS, site)
            check_raises(self, error, kept, idle_by, NET, GOODS, site)
            check_raises(self, error, kept, least_kept, BARE, (), site)

    def test_first_one_that_is_none(self):
        rows = [((("line", "a"), ("yard", "z")), NoLine, "a"), ((("line", "q"), ("yard", "z")), NoYard, "z"), ((("yard", "q"), ("yard", "z")), NoYard, "q"),
                ((("line", "q"), ("line", "r"), ("line", "z"), ("yard", "b")), NoLine, "z"), ([["yard", "a"]], NoYard, "a")]
        for sites, error, name in rows:
            for call in (can_go, who_feels, gone_by_turns, most_gone):
                check_raises(self, error, {"name": name}, call, NET, GOODS, sites)
        check_raises(self, NoYard, {"name": "z"}, gone_by_turns, NET, GOODS, (("yard", "z"), ("line", "a")))
        check_raises(self, NoLine, {"name": "a"}, gone_by_turns, NET, GOODS, (("yard", "d"), ("line", "a"), ("yard", "z")))


if __name__ == "__main__":
    unittest.main()
