"""The examples of the document, word for word."""

import doctest
import importlib
import os
import re
import unittest

PACKAGE = "freightrights"
PLACES = ["errors", "nets", "texts", "plans", "cuts", "covers", "fulls", "trades", "rights", "rows", "spreads", "wishes", "promises",
          "works", "betters", "weather", "days", "hidden", "watches", "board", "desk"]

NETS = r'''
>>> net = net_from("hours 3; yard a 2; yard b 0; line x a b 1 4; customer m b 1 2; customer n a 0")
>>> net
(3, (('a', 2), ('b', 0)), (('x', 'a', 'b', 1, 4),), (('m', 'b', (1, 2)), ('n', 'a', (0,))))
>>> line_of(net, "x"), place_of(net, "m"), spots_of(net, ("m", "n")), reached_spots(net, "a", 1), customers_reached(net, "a", 2), arrives((("a", 0, 7),), "a", 0)
(('a', 'b', 1, 4), ('b', (1, 2)), (('a', 0), ('b', 1), ('b', 2)), (('a', 1), ('a', 2), ('b', 2)), (), 7)
>>> with_most(net, "x", 0)[2], is_arrivals(net, (("a", 3, 1),)), is_taking(net, (5, 0)), net_text(without_customer(net, "m"))
((('x', 'a', 'b', 1, 0),), False, True, 'hours 3; yard a 2; yard b 0; line x a b 1 4; customer n a 0')
>>> with_line(net, "y", "b", "c", 0, 1)
raises NoYard(name='c')
>>> net_from("hours 3; line x a b 1 4")
raises BadText(piece=1)
'''

TEXTS = r'''
>>> names_text(("b", "a")), numbers_text((3, 0)), arrivals_text((("a", 0, 2), ("a", 1, 5))), names_text(())
('b a', '3 0', 'a 0 2; a 1 5', '-')
>>> names_from("b a"), numbers_from("3 0"), arrivals_from("a 2 1; b 0 9"), arrivals_from("-")
(('b', 'a'), (3, 0), (('a', 2, 1), ('b', 0, 9)), ())
>>> arrivals_from("a 1 2; a 0 5")
raises BadText(piece=1)
>>> numbers_from("3 x")
raises BadText(piece=1)
'''

PLANS = r'''
>>> net = net_from("hours 3; yard a 1; yard b 0; line x a b 1 4; customer m b 1 2; customer n a 0")
>>> goods, plan = (("a", 0, 5),), ((("x", 0, 3),), (("m", 1, 2), ("n", 0, 1)))
>>> is_plan(net, goods, plan), taking_of(net, plan), there(net, goods, plan, "b", 1), left(net, goods, plan, "a", 0), lying(net, goods, plan), given_back(net, goods, plan)
(True, (2, 1), 3, 1, (('a', 0, 1), ('a', 1, 1)), 2)
>>> is_plan(net, goods, ((("x", 0, 5),), ())), is_plan(net, goods, ((("x", 1, 2),), ())), is_plan(net, goods, ((("x", 2, 1),), ())), is_plan_for(net, goods, (4, 1), plan_for(net, goods, (4, 1)))
(False, False, False, True)
>>> to_spare(net, goods, plan, "a", 0), to_spare(net, goods, plan, "b", 1), idle_moves(net, goods, plan), leaner(net, goods, plan)
(1, 1, (('x', 0),), ((('x', 0, 2),), (('m', 1, 2), ('n', 0, 1))))
>>> both = net_from("hours 2; yard a 1; yard b 1; line k b a 1 1; line l a b 1 1; customer m a 1; customer n b 1")
>>> idle_moves(both, (("a", 0, 1), ("b", 0, 1)), ((("k", 0, 1), ("l", 0, 1)), (("m", 1, 1), ("n", 1, 1))))
()
>>> plan_for(net, goods, (5, 1))
raises CanNot()
'''

CUTS = r'''
>>> net, rows = net_from("hours 2; yard a 2; yard b 0; line x a b 1 1; customer m b 1; customer n a 0 1"), (("a", 0, 3),)
>>> is_cut(net, ("m",), (("b", 1),)), is_cut(net, ("n",), (("a", 0),)), cut_pieces(net, rows, (("b", 1),)), cut_value(net, rows, (("a", 1), ("b", 1)))
(True, False, (('line', 'x', 0, 1), ('room', 'b', 0, 0)), 3)
>>> least_cut(net, rows, ("m",)), widest_cut(net, rows, ("m",)), narrowest_cuts(net, rows, ("m",)), how_many_narrowest(net, rows, ("m", "n")), is_narrowest(net, rows, ("m",), (("a", 0), ("b", 1)))
((('b', 1),), (('b', 0), ('b', 1)), [(('b', 0), ('b', 1)), (('b', 1),)], 2, False)
>>> felt_pieces(net, rows, ("m",)), wanted_pieces(net, rows, ("m",)), wanted_pieces(net, rows, ("n",)), chain_of_cuts(net, rows, ("n", "m")), lost_between(net, (("a", 0),), (("b", 1),))
((('arrival', 'b', 1), ('line', 'x', 0)), (('line', 'x', 0),), (('arrival', 'a', 0),), ((), (('a', 0), ('a', 1)), (('a', 0), ('a', 1), ('b', 1))), 1)
>>> least_cut(net, rows, ("m", "p"))
raises NoCustomer(name='p')
'''

COVERS = r'''
>>> net, arrivals = net_from("hours 2; yard a 1; yard b 0; line x a b 1 2; customer m b 1; customer n a 0 1"), (("a", 0, 3), ("a", 1, 1))
>>> covers(net, arrivals), whole(net, arrivals), gain(net, arrivals, (), "n"), gain(net, arrivals, ("m",), "n")
((((), 0), (('m',), 2), (('m', 'n'), 4), (('n',), 4)), 4, 4, 2)
>>> can_be(net, arrivals, (2, 2)), over_set(net, arrivals, (2, 3)), over_set(net, arrivals, (3, 0)), room_beside(net, arrivals, (1, 2), "n")
(True, ('m', 'n'), ('m',), 1)
>>> is_cover_plan(net, arrivals, ("m",), ((("x", 0, 2),), (("m", 1, 2), ("n", 0, 1)))), wished_cover(net, arrivals, (5, 1), ("m", "n")), are_apart(net, arrivals, ("m",), ("n",)), how_many_takings(net, arrivals)
(True, 3, False, 12)
>>> cover(net, arrivals, ("m", "z"))
raises NoCustomer(name='z')
'''

FULLS = r'''
>>> net = net_from("hours 2; yard a 5; yard b 0; line x a b 0 2; customer m b 0 1; customer n a 1; customer p b 1")
>>> arrivals, taking = (("a", 0, 3),), (1, 0, 2)
>>> full_sets(net, arrivals, taking), greatest_full(net, arrivals, taking), [least_full(net, arrivals, taking, name) for name in "mnp"]
([(), ('m', 'n', 'p'), ('m', 'p'), ('p',)], ('m', 'n', 'p'), [('m', 'p'), ('m', 'n', 'p'), ('p',)])
>>> [givers(net, arrivals, taking, name) for name in "mnp"], getters(net, arrivals, taking, "p"), can_give(net, arrivals, taking, "m", "p"), can_get(net, arrivals, taking)
([('p',), ('m', 'p'), ()], ('m', 'n'), False, ())
>>> knots(net, arrivals, taking), full_chain(net, arrivals, taking), can_get(net, arrivals, (1, 0, 1)), full_sets(net, arrivals, (1, 0, 1)), least_full(net, arrivals, (1, 0, 1), "p")
((('m',), ('n',), ('p',)), ((), ('p',), ('m', 'p'), ('m', 'n', 'p')), ('m', 'n', 'p'), [()], None)
>>> is_full_paper(net, arrivals, taking, ("p",), (("b", 1),)), is_full_paper(net, arrivals, taking, ("n",), (("a", 1),)), is_loose_paper(net, arrivals, taking, ("n",), ((), (("n", 1, 1),))), loose_paper(net, arrivals, taking, ("p",))
(True, False, True, None)
>>> always_full(net, arrivals, ("p",)), always_full(net, arrivals, ("m", "n", "p")), both_full(net, arrivals, ("m",), ("p",)), both_full(net, arrivals, ("m", "n"), ("n", "p")), chain_taking(net, arrivals, (("p",), ("m", "p")))
(False, True, False, True, (1, 0, 2))
>>> is_full(net, arrivals, (2, 0, 2), ())
raises CanNot()
>>> least_full(net, arrivals, taking, "z")
raises NoCustomer(name='z')
'''

TRADES = r'''
>>> net, goods = net_from("hours 1; yard x 0; yard y 0; line l x y 0 1; customer a x 0; customer b y 0"), (("x", 0, 2),)
>>> trades_from(net, goods, (1, 1)), trade_most(net, goods, (1, 1), "a", "b"), behind_trade(net, goods, (2, 0), ("a", "b", 1)), always_trades(net, goods), lots_apart(net, goods)
([('a', '', 1), ('b', '', 1), ('b', 'a', 1)], 0, (1, 1), (('b', 'a'),), (('a', 'b'),))
>>> units_between(net, goods, (2, 0), (0, 1)), is_trade_row(net, goods, (2, 0), (0, 1), (("a", "b", 1), ("a", "", 1))), better_trade(net, goods, (1, 1), (3, 2)), best_chain(net, goods, (2, 0), (3, 2))
(2, True, ('b', 'a', 1), (('a',), ('a', 'b')))
>>> trades_from(net, goods, (0, 2))
raises CanNot()
'''

RIGHTS = r'''
>>> net = net_from("hours 2; yard a 1; yard b 0; line l a b 1 2; customer p a 0 1; customer q b 1; customer r b 0 1")
>>> arrivals = (("a", 0, 3), ("a", 1, 1), ("b", 0, 1))
>>> by_rank(net, arrivals, ("p", "q", "r")), by_rank(net, arrivals, ("q", "r", "p")), by_rank_wished(net, arrivals, (1, 1, 9), ("p", "q", "r")), weights_against(net, arrivals, ("p", "q", "r"), (2, 2, 1))
((4, 0, 1), (2, 2, 1), (1, 1, 2), (1, 0, 0))
>>> corners(net, arrivals), rank_to(net, arrivals, (2, 0, 3)), how_many_ranks(net, arrivals, (2, 0, 3)), is_corner(net, arrivals, (3, 1, 1)), idle_places(net, arrivals, ("p", "q", "r"))
(((2, 0, 3), (2, 2, 1), (4, 0, 1)), ('r', 'p', 'q'), 2, False, (1,))
>>> sure_share(net, arrivals, "p"), most_share(net, arrivals, "p"), sure_share_at(net, arrivals, "p", 1), pushed(net, arrivals, "p", "r"), lead_alike(net, arrivals, ("q", "p", "r"), ("q", "r", "p"))
(2, 4, 2, 2, True)
>>> by_rank(net, arrivals, ("p", "q"))
raises OtherCustomers()
'''

ROWS = r'''
>>> net = net_from("hours 2; yard a 1; yard b 0; line l a b 1 2; customer p a 0 1; customer q b 1; customer r b 0 1")
>>> arrivals, row = (("a", 0, 3), ("a", 1, 1), ("b", 0, 1)), ("q", "p", "p", "p", "q", "r", "p")
>>> answers_to(net, arrivals, row), row_serves(net, arrivals, row), gets_instead(net, arrivals, row, 1), gets_instead(net, arrivals, row, 5), gives_way(net, arrivals, row, 0, "q")
((True, True, True, True, False, True, False), (3, 1, 1), 4, None, 3)
>>> outcomes(net, arrivals, ("p", "p", "p", "q", "q", "r")), order_to(net, arrivals, ("q", "q", "p", "p", "p", "r"), (2, 2, 1)), idle_asks(net, arrivals, row), row_for(net, arrivals, (1, 0, 2)), parting_net(row, row)
(((2, 2, 1), (3, 1, 1)), ('p', 'p', 'q', 'q', 'p', 'r'), (0, 4, 5), ('p', 'r', 'r'), None)
>>> row_for(net, arrivals, (5, 0, 0))
raises CanNot()
'''

SPREADS = r'''
>>> hub = "hours 1; yard a 0; yard b 0; yard c 0; yard h 0; line u h a 0 1; line v h b 0 9; line w h c 0 9"
>>> net, six, free = net_from(hub + "; customer p a 0; customer q b 0; customer r c 0"), (("h", 0, 6),), (9, 9, 9)
>>> all_least(net, six, free), ladder(net, six, free), least_spread(net, six, free, ("r", "q", "p")), unit_move(net, six, free, (1, 4, 1)), is_least(net, six, free, (1, 3, 2))
([(1, 2, 3), (1, 3, 2)], ((1, 0, ('p',)), (2, 1, ('q', 'r'))), (1, 2, 3), ('q', 'r'), True)
>>> class_spread(net, six, (9, 4, 9), (("q",), ("p", "r"))), class_spread(net, six, free, (("p", "q", "r"),)), over((1, 4, 1), 2), telling_level((1, 4, 1), (1, 2, 3)), telling_level((1, 2, 3), (1, 4, 1))
((1, 4, 1), (1, 3, 2), 2, 2, None)
>>> unit_move(net, six, free, (1, 2, 2))
raises CanNot()
'''

WISHES = r'''
>>> net = net_from("hours 2; yard a 1; yard b 0; line x a b 0 1; customer m a 0; customer n b 0 1; customer o a 1")
>>> two, one, rank = (("a", 0, 2),), (("m", "n", "o"),), (("m",), ("n", "o"))
>>> share_if(net, two, (2, 2, 1), one, "n", 9), ceiling(net, two, (2, 2, 1), one, "m"), ceiling(net, two, (2, 2, 1), rank, "m"), wish_more(net, two, (2, 0, 1), one, "n"), harm_by(net, two, (2, 2, 1), one, "n")
(1, 1, 2, (True, 'o'), (0, 0, 1))
>>> uses_if(net, two, (2, 2, 1), (0, 2, 1), one), better_by(net, two, (2, 2, 1), (0, 2, 1), one), worse_by(net, two, (2, 2, 1), (0, 2, 1), one)
((0, 1, 1), ('o',), ('m',))
>>> least_got(net, two, (2, 2, 1), "n"), most_got(net, two, (2, 2, 1), "n"), rival_parts(net, two, (2, 2, 1)), rival_parts(net, two, (1, 1, 0)), always_served(net, two, (1, 1, 0))
(0, 2, (('m', 'n', 'o'),), (('m',), ('n',), ('o',)), ('m', 'n', 'o'))
>>> can_take_from(net, two, (1, 1, 1), "o", "m"), is_rivalry(net, two, (1, 1, 1), "n", "o", (("m", "n", "o"), 1)), is_rivalry(net, two, (1, 1, 1), "n", "o", (("n", "o"), 0))
(True, True, False)
'''

PROMISES = r'''
>>> net = net_from("hours 2; yard a 1; yard b 0; line x a b 0 1; customer m a 0; customer n b 0 1; customer o a 1")
>>> two, one, done = (("a", 0, 2),), (("m", "n", "o"),), ((), (("m", 0, 1),))
>>> left_net(net, 1), left_arrivals(net, two, done, 1), known_arrivals((("a", 0, 2), ("a", 1, 5)), (("b", 1, 3),), 0)
((1, (('a', 1), ('b', 0)), (('x', 'a', 'b', 0, 1),), (('m', 'a', ()), ('n', 'b', (0,)), ('o', 'a', (0,)))), (('a', 0, 1),), (('a', 0, 2), ('b', 1, 3)))
>>> promised(net, two, done, 1, (2, 2, 1), one), raised_by(net, two, done, 1, (2, 2, 1), one, "a", 1), can_go_on(net, two, done, 1, (1, 0, 1)), can_go_on(net, two, done, 1, (2, 0, 0))
((1, 1, 0), 'o', True, False)
>>> [is_next_hour(net, two, ((), ()), 0, (2, 2, 1), one, own) for own in (((("x", 0, 1),), (("m", 0, 1), ("n", 0, 1))), ((), (("m", 0, 1),)), ((), ()))], missed(net, two, ((), ()), 1, ("m",)), missed(net, two, ((), ()), 1, ("m", "n"))
([True, True, False], 2, 1)
>>> raised_by(net, two, done, 1, (2, 2, 1), one, "a", 0)
raises NoNumber(number=0)
>>> plan_on(net, two, done, 1, (2, 0, 0))
raises CanNot()
'''

WORKS = r'''
>>> net = net_from("hours 2; yard x 0; yard y 0; line l x y 0 1; line m x y 1 2; customer a x 0 1; customer b y 0; customer c y 1")
>>> wide = net_from("hours 2; yard x 0; yard y 0; line l x y 0 2; line m x y 1 2; customer a x 0 1; customer b y 0; customer c y 1")
>>> less = net_from("hours 2; yard x 0; yard y 0; line l x y 0 1; line m x y 1 0; customer a x 0 1; customer b y 0; customer c y 1")
>>> come = (("x", 0, 3),)
>>> [own for own in all_growths(net, come, wide, come) if own[1] != 0], never_harms(net, come, wide, come), falling(net, come, wide, come)
([(('b',), 1)], False, (('b',), 'a'))
>>> losers(net, come, wide, come), gainers(net, come, wide, come), most_lost(net, come, wide, come, "a"), most_lost(net, come, wide, come, "b")
(('a', 'c'), ('b',), 1, 0)
>>> is_losing_rank(net, come, wide, come, "c", ("b", "c", "a")), is_losing_rank(net, come, wide, come, "c", ("c", "b", "a")), lost_units(net, come, wide, come, ("b", "b", "a", "c", "c"))
(True, False, (3,))
>>> growth(net, come, less, come, ("c",)), losers(net, come, less, come), gainers(net, come, less, come)
(-2, ('c',), ('a',))
>>> growing_spots(net, come, ("c",)), growing_spots(net, come, ("a", "b", "c")) == spots(net), helped(net, come, "y", 1)
((('x', 1), ('y', 1)), True, ('c',))
>>> helped(net, come, "y", 2)
raises NoNumber(number=2)
'''

BETTERS = r'''
>>> net, goods = net_from("hours 3; yard d 0; yard m 1; line q m d 1 5; line r m d 0 2; customer x d 0 1 2; customer y m 1"), (("m", 0, 3),)
>>> m, q, r, d = ("yard", "m"), ("line", "q"), ("line", "r"), ("yard", "d")
>>> need_alone(net, goods, (1, 2), m), need_alone(net, goods, (1, 2), r), need_alone(net, goods, (2, 2), m), helpers_alone(net, goods, (1, 2)), is_narrow_without(net, goods, (1, 2), r, (("y",), (("m", 1),)))
(2, None, None, ((('yard', 'm'), 2),), True)
>>> [least_kept(net, goods, site) for site in (m, q, r, d)], idle_by(net, goods, q), idle_sites(net, goods), uses_of(net, q, (("d", 0), ("d", 1), ("d", 2)))
([1, 0, 0, 0], 5, (('line', 'q'), ('line', 'r'), ('yard', 'd')), 2)
>>> can_go(net, goods, (q, r)), who_feels(net, goods, (q, r)), gone_by_turns(net, goods, (r, q, d)), most_gone(net, goods, (q, r, d)), need_alone(with_site(net, q, 0), goods, (3, 0), r)
(False, ('x',), (('line', 'r'), ('yard', 'd')), (('line', 'q'), ('yard', 'd')), 2)
>>> site_most(net, ("line", "m"))
raises NoLine(name='m')
'''

WEATHER = r'''
>>> net = net_from("hours 1; yard p 0; yard q 0; line x p q 0 2; customer a p 0; customer b q 0")
>>> arrivals = (("p", 0, 3), ("q", 0, 1))
>>> is_weather(arrivals, 2, (("p", 0, 1), ("q", 0, 1))), is_weather(arrivals, 2, (("q", 0, 1),))
(True, False)
>>> sure_cover(net, arrivals, 2, ("a",)), sure_cover(net, arrivals, 2, ("b",)), sure_cover(net, arrivals, 2, ("a", "b")), surely_can_be(net, arrivals, 2, (1, 1)), fewest_out(net, arrivals, (1, 2))
(1, 2, 2, True, 2)
>>> sure_shares(net, arrivals, 2, ("a", "b")), sure_shares(net, arrivals, 2, ("b", "a")), fewest_out_for(net, arrivals, ("a", "b"), "b", 1), fewest_out_for(net, arrivals, ("a", "b"), "a", 2)
((1, 0), (0, 2), 1, 2)
>>> felt_spots(net, arrivals, ("b",)), felt_spots(net, arrivals, ("a", "b"))
((('q', 0),), (('p', 0), ('q', 0)))
>>> is_breaking(net, arrivals, 2, (1, 2), ((("p", 0, 2),), ("a", "b"))), is_worst_weather(net, arrivals, 2, ("b", "a"), "a", (("p", 0, 1), ("q", 0, 1)))
(True, True)
>>> sure_cover(net, arrivals, 2, ("a", "z"))
raises NoCustomer(name='z')
'''

DAYS = r'''
>>> net = net_from("hours 4; yard p 0; yard q 1; yard r 1; yard s 0; yard v 0; line a q r 2 1; line b p r 3 1; line c p s 3 1; line d v s 1 1; customer j q 1; customer r r 3; customer s s 3")
>>> gates, rank = ("p", "q", "v"), ("s", "r", "j")
>>> tie(net, gates, rank, "j"), tied(net, gates, rank, "j"), in_time(net, gates, rank, "r"), all_in_time(net, gates, ("s", "j", "r"))
(('j', ('q', 0), 'r', ('p', 0), 's', ('v', 2)), ('r', 's'), True, True)
>>> one, other = (("p", 0, 1), ("q", 0, 1)), (("p", 0, 1), ("q", 0, 1), ("v", 2, 1))
>>> are_two_arrivals(net, gates, rank, "j", ((1, 1, 1), one, other)), amount_known(net, other, (1, 1, 1), rank, "j"), late_ones(net, other, (1, 1, 1), rank), late_ones(net, one, (1, 1, 1), rank)
(True, 0, ('j',), ())
>>> ranks_in_time(net, gates), how_many_in_time(net, ("p", "q", "r", "s", "v")), rank_in_time(net, gates), always_in_time(net, gates, "j")
([('j', 'r', 's'), ('j', 's', 'r'), ('r', 'j', 's'), ('s', 'j', 'r')], 3, ('j', 'r', 's'), False)
>>> tie(net, ("p", "z"), rank, "j")
raises NoYard(name='z')
'''

HIDDEN = r'''
>>> net, rows = net_from("hours 1; yard a 0; yard b 0; line x a b 0 2; customer m a 0; customer n b 0"), (("a", 0, 3),)
>>> sets_of_places(2), table_of(net, rows), is_table(2, (0, 3, 3, 2)), is_table(2, (0, 1, 3, 1)), len(all_tables(2, 2)), table_of(*net_for(3, (0, 1, 2, 2, 2, 1, 2, 1)))
(((), (0,), (0, 1), (1,)), (0, 3, 3, 2), True, False, 10, (0, 1, 2, 2, 2, 1, 2, 1))
>>> readings = (((1, 1), True), ((2, 0), False))
>>> tables_with(2, 2, readings), told_of(2, 2, readings, (0, 2)), told_of(2, 2, readings, (1, 0)), cover_range(2, 2, readings, (1,)), first_clash(2, 2, readings + (((1, 0), False),)), is_open_taking(2, 2, readings, (0, 2)), open_taking(1, 1, (((1,), True),))
([(0, 1, 2, 1), (0, 1, 2, 2)], None, True, (1, 2), 2, True, None)
>>> asking = Asking(1, 1)
>>> asking.left, asking.next_taking(), asking.tell(True), asking.table, asking.undo(), asking.table
(2, (1,), None, (0, 1), None, None)
>>> asking.tell(1)
raises BadAnswer(answer=1)
'''

WATCHES = r'''
>>> net, goods = net_from("hours 3; yard d 0; yard m 1; line q m d 1 5; line r m d 0 2; customer x d 0 1 2; customer y m 1"), (("m", 0, 3),)
>>> eyes = Watch(net, goods)
>>> eyes.do(("most", "q", 0)), eyes.cover(("x",)), eyes.do(("room", "m", 0)), eyes.cover(("x",)), eyes.grown(), eyes.first_not((3, 0)), eyes.least_cover(("y",)), eyes.told
(None, 3, None, 2, (('x', 'y'), ()), 2, 0, (('most', 'q', 0), ('room', 'm', 0)))
>>> eyes.back_alone(0), eyes.cover(("x",)), eyes.told, undone_by(net, goods, ("arrive", "m", 1, 4)), edited(net, goods, ("arrive", "m", 0, 0))[1], do_commute(net, goods, ("most", "q", 1), ("most", "q", 2))
(None, 3, (('room', 'm', 0),), ('arrive', 'm', 1, 0), (), False)
>>> eyes.do(("hours", "x", (1, 3)))
raises NoNumber(number=3)
>>> eyes.back_alone(1)
raises NoNumber(number=1)
'''

BOARD = r'''
>>> board, goods = Board(), (("m", 0, 3),)
>>> both, far = net_from("hours 2; yard d 0; yard m 1; line r m d 0 2; customer x d 0 1; customer y m 1"), net_from("hours 2; yard m 3; customer x m 1")
>>> board.put("day", both, goods), board.put("more", both, (("m", 0, 4),)), board.put("far", far, goods), board.names, board.with_customer("y"), board.where_can((("x", 3),)), board.where_can((("x", 2), ("y", 1)))
(None, None, None, ('day', 'far', 'more'), ('day', 'more'), ('day', 'far', 'more'), ('day', 'more'))
>>> board.alike(), board.at_least("day"), board.edit("day", ("room", "m", 3)), board.at_least("day"), board.where_can((("x", 1), ("y", 2))), board.deeds
((('day', 'more'), ('far',)), ('more',), None, (), ('day',), 4)
>>> board.undo(), board["day"] == (both, goods), board.rename("far", "near"), board.twin() == board, "near" in board
(None, True, None, True, True)
>>> board.put("day", far, goods)
raises Known(name='day')
'''

DESK = r'''
>>> answers("net one hours 2; yard d 0; yard m 1; line r m d 0 2; customer x d 0 1; customer y m 1\narrive one m 0 3\ncover one x y\ncan one x 2 y 1\nrank one y x\nroom one m 0\ncover one y\nask one x y x x\nundo\ntime one x y\nmost one q 1\nwhere x 3")
['done', 'done', '3', 'yes', '2 1', 'done', '0', 'yes no yes no', 'done', 'yes', 'refused NoLine', 'one']
>>> answers("names\nnet one hours 0")
raises BadLine(number=1)
'''


def all_names():
    found = {}
    for place in PLACES:
        found.update(vars(importlib.import_module(PACKAGE + "." + place)))
    return found


class Examples(unittest.TestCase):
    def check_raises(self, source, names, error, kept):
        with self.assertRaises(names["FreightError"], msg=source) as caught:
            eval(source, names)
        self.assertEqual(type(caught.exception).__name__, error, source)
        self.assertEqual(vars(caught.exception), eval("dict(" + kept + ")"), source)

    def check_rows(self, text):
        names = all_names()
        rows = text.strip().split("\n")
        asked = 0
        for at, row in enumerate(rows):
            if not row.startswith(">>> "):
                continue
            source = row[4:]
            answer = rows[at + 1] if at + 1 < len(rows) else ">>> "
            raised = re.fullmatch(r"raises (\w+)\((.*)\)", answer)
            if answer.startswith(">>> "):
                exec(source, names)
            elif raised:
                self.check_raises(source, names, raised[1], raised[2])
                asked += 1
            else:
                self.assertEqual(repr(eval(source, names)), answer, source)
                asked += 1
        self.assertGreater(asked, 1)

    def test_readme(self):
        readme = os.path.join(os.path.dirname(os.path.dirname(os.path.abspath(__file__))), "README.md")
        failed, asked = doctest.testfile(readme, module_relative=False)
        self.assertEqual((failed, asked > 4), (0, True))

    def test_nets(self):
        self.check_rows(NETS)

    def test_texts(self):
        self.check_rows(TEXTS)

    def test_plans(self):
        self.check_rows(PLANS)

    def test_cuts(self):
        self.check_rows(CUTS)

    def test_covers(self):
        self.check_rows(COVERS)

    def test_fulls(self):
        self.check_rows(FULLS)

    def test_trades(self):
        self.check_rows(TRADES)

    def test_rights(self):
        self.check_rows(RIGHTS)

    def test_rows(self):
        self.check_rows(ROWS)

    def test_spreads(self):
        self.check_rows(SPREADS)

    def test_wishes(self):
        self.check_rows(WISHES)

    def test_promises(self):
        self.check_rows(PROMISES)

    def test_works(self):
        self.check_rows(WORKS)

    def test_betters(self):
        self.check_rows(BETTERS)

    def test_weather(self):
        self.check_rows(WEATHER)

    def test_days(self):
        self.check_rows(DAYS)

    def test_hidden(self):
        self.check_rows(HIDDEN)

    def test_watches(self):
        self.check_rows(WATCHES)

    def test_board(self):
        self.check_rows(BOARD)

    def test_desk(self):
        self.check_rows(DESK)


if __name__ == "__main__":
    unittest.main()
