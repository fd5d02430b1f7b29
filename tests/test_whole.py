"""What is promised over the whole program: what one file tells goes with what another one tells."""

import random
import unittest

from helpers import STRANGE, as_lists, changed, great_nets, lively_great, lively_nets, parts, people, ranks, some_wishes, together
from test_betters import sites_of
from test_watches import edit_by_chance

from freightrights.betters import can_go, gone_by_turns, idle_sites, least_kept, need_alone, with_site
from freightrights.board import Board
from freightrights.covers import can_be, cover, covers, over_set, room_beside, same_covers
from freightrights.cuts import cut_value, is_cut, is_narrowest, least_cut, widest_cut
from freightrights.days import amount_known, in_time, late_ones
from freightrights.desk import answers
from freightrights.fulls import can_get, can_give, full_paper, full_sets, is_full_paper, is_loose_paper, loose_paper
from freightrights.hidden import covers_told, net_for, table_of
from freightrights.nets import net_from, net_text
from freightrights.plans import is_plan_for, plan_for
from freightrights.rights import by_rank, by_rank_wished
from freightrights.rows import answers_to, row_for, row_serves
from freightrights.spreads import class_spread, is_least, least_spread
from freightrights.texts import arrivals_from, arrivals_text
from freightrights.trades import is_trade, is_trade_row, trade_most, trade_row
from freightrights.watches import Watch, edited, undone_by
from freightrights.weather import dry_weather, fewest_out, is_weather, sure_cover, sure_shares, surely_can_be, worst_weather
from freightrights.wishes import better_by, ceiling, share_if, worse_by
from freightrights.works import gainers, losers, never_harms

GREAT = 10 ** 30


class Takings(unittest.TestCase):
    """(a): a TAKING can be exactly if no set takes more than its COVER; the FULL sets tell who can get and give."""

    def test_takings_and_full_sets(self):
        for seed, (net, arrivals) in enumerate(lively_great(19000, 25, 4)):
            chance = random.Random(seed)
            book = dict(covers(net, arrivals))
            for _ in range(4):
                taking = by_rank_wished(net, arrivals, some_wishes(chance, net, book, True), chance.choice(ranks(net)))
                self.assertTrue(is_plan_for(net, arrivals, taking, plan_for(net, arrivals, taking)))
                self.assertIsNone(over_set(net, arrivals, taking))
                fulls = full_sets(net, arrivals, taking)
                for name in people(net):
                    more = changed(net, taking, name, 1)
                    self.assertEqual(can_be(net, arrivals, more), name in can_get(net, arrivals, taking))
                    self.assertEqual(can_be(net, arrivals, more), not any(name in some for some in fulls))
                    self.assertEqual(over_set(net, arrivals, more) is None, can_be(net, arrivals, more))
                    self.assertEqual(room_beside(net, arrivals, taking, name), trade_most(net, arrivals, taking, "", name))
                    for other in people(net):
                        if other != name:
                            self.assertEqual(can_give(net, arrivals, taking, name, other), is_trade(net, arrivals, taking, (name, other, 1)))

    def test_papers(self):
        for seed, (net, arrivals) in enumerate(lively_great(19100, 15, 4)):
            taking = class_spread(net, arrivals, (GREAT,) * len(people(net)), (people(net),))
            for some in parts(people(net)):
                for far in (least_cut(net, arrivals, some), widest_cut(net, arrivals, some)):
                    self.assertTrue(is_cut(net, some, far) and is_narrowest(net, arrivals, some, far))
                    self.assertEqual(cut_value(net, arrivals, far), cover(net, arrivals, some))
                full, loose = full_paper(net, arrivals, taking, some), loose_paper(net, arrivals, taking, some)
                self.assertEqual((full is None) + (loose is None), 1)
                self.assertEqual(is_full_paper(net, arrivals, taking, some, full), full is not None)
                self.assertEqual(is_loose_paper(net, arrivals, taking, some, loose), loose is not None)


class Rights(unittest.TestCase):
    """(b): FOR ALL ranks, wishes and losses at once."""

    def test_nobody_gains_by_telling_another_wish(self):
        for net, arrivals, book in lively_nets(19200, 40, 4):
            chance = random.Random(repr(net))
            wishes, names = some_wishes(chance, net, book), people(net)
            classes = (names[::2], names[1::2])
            for at, name in enumerate(names):
                for number in (0, 1, 2, GREAT):
                    told = wishes[:at] + (number,) + wishes[at + 1:]
                    self.assertNotIn(name, better_by(net, arrivals, wishes, told, classes))
                    self.assertEqual(share_if(net, arrivals, wishes, classes, name, number), min(number, ceiling(net, arrivals, wishes, classes, name)))
                    gained, lost = better_by(net, arrivals, wishes, told, classes), worse_by(net, arrivals, wishes, told, classes)
                    self.assertTrue(not gained or name in lost)

    def test_ranks_rows_and_trades(self):
        for net, arrivals, book in lively_nets(19300, 40, 4):
            chance = random.Random(repr(net))
            for rank in chance.sample(ranks(net), min(3, len(ranks(net)))):
                one, other = by_rank(net, arrivals, rank), by_rank(net, arrivals, rank[::-1])
                self.assertTrue(is_trade_row(net, arrivals, one, other, trade_row(net, arrivals, one, other)))
                row = tuple(name for name in rank for _ in range(book[(name,)]))
                self.assertEqual(row_serves(net, arrivals, row), one)
                self.assertTrue(all(answers_to(net, arrivals, row_for(net, arrivals, one))))
                wishes = (sum(book.values()) + 1,) * len(rank)
                self.assertEqual(by_rank_wished(net, arrivals, wishes, rank), one)
                self.assertTrue(is_least(net, arrivals, wishes, least_spread(net, arrivals, wishes, rank)))


class Works(unittest.TestCase):
    """(c): NETS against nets."""

    def test_idle_sites_harm_nobody(self):
        for net, arrivals, _ in lively_nets(19400, 40, 4):
            gone = gone_by_turns(net, arrivals, sites_of(net))
            new = net
            for site in gone:
                new = with_site(new, site, 0)
            self.assertEqual((losers(net, arrivals, new, arrivals), gainers(net, arrivals, new, arrivals)), ((), ()))
            self.assertTrue(never_harms(net, arrivals, new, arrivals) and same_covers(net, arrivals, new, arrivals))
            self.assertTrue(can_go(net, arrivals, tuple(sorted(gone))))
            for site in idle_sites(net, arrivals):
                self.assertEqual(least_kept(net, arrivals, site), 0)

    def test_needed_alone(self):
        """With the least most WISHES can be; with a most that is kept no TAKING by RANK is missed."""
        for net, arrivals, book in lively_nets(19500, 30, 4):
            for rank in ranks(net)[:2]:
                taking = by_rank(net, arrivals, rank)
                for site in sites_of(net):
                    number = need_alone(net, arrivals, taking, site)
                    self.assertLessEqual(number, least_kept(net, arrivals, site))
                    self.assertTrue(can_be(with_site(net, site, number), arrivals, taking))


class Days(unittest.TestCase):
    """(d): what stays out, what is known in time, what is told back, what is changed deed by deed."""

    def test_weather(self):
        for net, arrivals, book in lively_nets(19600, 30, 3, 8):
            arrivals = arrivals[:4]
            for rank in ranks(net)[:2]:
                sure = sure_shares(net, arrivals, 2, rank)
                self.assertTrue(surely_can_be(net, arrivals, 2, sure) and can_be(net, arrivals, sure))
                self.assertTrue(fewest_out(net, arrivals, sure) is None or fewest_out(net, arrivals, sure) > 2)
                for at, name in enumerate(people(net)):
                    weather = worst_weather(net, arrivals, 2, rank, name)
                    self.assertTrue(is_weather(arrivals, 2, weather))
                    self.assertEqual(by_rank(net, weather, rank)[at], sure[at])
                    self.assertIn(name, losers(net, arrivals, net, weather) if sure[at] < by_rank(net, arrivals, rank)[at] else people(net))
            for some in parts(people(net)):
                self.assertEqual(cover(net, dry_weather(net, arrivals, 2, some), some), sure_cover(net, arrivals, 2, some))

    def test_known_in_time(self):
        for net, arrivals, book in lively_nets(19700, 60, 4):
            chance = random.Random(repr(net))
            yards = tuple(sorted({row[0] for row in arrivals}))
            for rank in ranks(net)[:2]:
                wishes = some_wishes(chance, net, book)
                for at, name in enumerate(people(net)):
                    late = amount_known(net, arrivals, wishes, rank, name) < by_rank_wished(net, arrivals, wishes, rank)[at]
                    self.assertEqual(late, name in late_ones(net, arrivals, wishes, rank))
                    self.assertFalse(late and in_time(net, yards, rank, name))

    def test_told_back(self):
        for net, arrivals in great_nets(19800, 40, 3):
            if people(net):
                table = table_of(net, arrivals)
                found = covers_told(len(people(net)), max(table), lambda taking: can_be(net, arrivals, taking))
                other, later = net_for(len(people(net)), found)
                self.assertEqual((found, [number for _, number in covers(other, later)]), (table, [number for _, number in covers(net, arrivals)]))

    def test_texts_edits_boards(self):
        """A NET by its text, changed by EDITS at a desk, on a Board, by a Watch, and as it was by what undoes them."""
        for seed, (net, arrivals) in enumerate(great_nets(19900, 40)):
            chance = random.Random(seed)
            self.assertEqual((net_from(net_text(net)), arrivals_from(arrivals_text(arrivals))), (net, arrivals))
            watch, board, now, undoing = Watch(net, arrivals), Board(), (net, arrivals), []
            board.put("a", net, arrivals)
            for _ in range(8):
                edit = edit_by_chance(chance, net)
                undoing.append(undone_by(*now, edit))
                now = edited(*now, edit)
                watch.do(edit)
                board.edit("a", edit)
                self.assertEqual((now, board["a"]), ((watch.net, watch.arrivals),) * 2)
                self.assertEqual(watch.grown(), (losers(net, arrivals, *now), gainers(net, arrivals, *now)))
            self.assertEqual(answers(f"net a {net_text(watch.net)}\ntext a"), ["done", net_text(now[0])])
            for edit in undoing[::-1]:
                now = edited(*now, edit)
                watch.back()
                board.undo()
                self.assertEqual((now, board["a"]), ((watch.net, watch.arrivals),) * 2)
            self.assertEqual(now, (net, arrivals))


class Things(unittest.TestCase):
    def test_lists_and_strange_values_stand_for_nothing(self):
        """No PLAN, CUT, WEATHER or other paper is a list; other values are none whatever the NET."""
        net, arrivals, _ = next(iter(lively_nets(19950, 1, 3)))
        far = least_cut(net, arrivals, people(net))
        self.assertIs(is_cut(net, people(net), far), True)
        for call, told, right in ((is_cut, (net, people(net)), far), (is_weather, (arrivals, 0), arrivals), (is_weather, (arrivals, GREAT), ())):
            self.assertIs(call(*told, right), True)
            self.assertIs(call(*as_lists(told), right), True)
            self.assertIs(call(*told, list(right)), False)
        self.assertEqual([thing for thing in STRANGE if is_weather(arrivals, GREAT, thing)], [()])
        self.assertEqual(together(far, ()), far)


if __name__ == "__main__":
    unittest.main()
