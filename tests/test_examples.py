"""The examples of the document, word for word."""

import doctest
import importlib
import os
import re
import unittest

PACKAGE = "freightrights"
PLACES = ["errors", "nets", "texts", "plans", "cuts", "covers", "fulls"]

NETS = r'''
>>> net = net_from("hours 3; yard a 2; yard b 0; line x a b 1 4; customer m b 1 2; customer n a 0")
>>> net
(3, (('a', 2), ('b', 0)), (('x', 'a', 'b', 1, 4),), (('m', 'b', (1, 2)), ('n', 'a', (0,))))
>>> line_of(net, "x"), place_of(net, "m"), spots_of(net, ("m", "n")), reached_spots(net, "a", 1), customers_reached(net, "a", 2), arrives((("a", 0, 7),), "a", 0)
(('a', 'b', 1, 4), ('b', (1, 2)), (('a', 0), ('b', 1), ('b', 2)), (('a', 1), ('a', 2), ('b', 2)), (), 7)
>>> with_most(net, "x", 0)[2], is_arrivals(net, (("a", 3, 1),)), is_taking(net, (5, 0)), net_text(without_customer(net, "m"))
((('x', 'a', 'b', 1, 0),), False, True, 'hours 3; yard a 2; yard b 0; line x a b 1 4; customer n a 0')
>>> with_line(net, "y", "b", "c", 0, 1)
raises NoYard(name='c')
>>> net_from("hours 3; line x a b 1 4")
raises BadText(piece=1)
'''

TEXTS = r'''
>>> names_text(("b", "a")), numbers_text((3, 0)), arrivals_text((("a", 0, 2), ("a", 1, 5))), names_text(())
('b a', '3 0', 'a 0 2; a 1 5', '-')
>>> names_from("b a"), numbers_from("3 0"), arrivals_from("a 2 1; b 0 9"), arrivals_from("-")
(('b', 'a'), (3, 0), (('a', 2, 1), ('b', 0, 9)), ())
>>> arrivals_from("a 1 2; a 0 5")
raises BadText(piece=1)
>>> numbers_from("3 x")
raises BadText(piece=1)
'''

PLANS = r'''
>>> net = net_from("hours 3; yard a 1; yard b 0; line x a b 1 4; customer m b 1 2; customer n a 0")
>>> goods, plan = (("a", 0, 5),), ((("x", 0, 3),), (("m", 1, 2), ("n", 0, 1)))
>>> is_plan(net, goods, plan), taking_of(net, plan), there(net, goods, plan, "b", 1), left(net, goods, plan, "a", 0), lying(net, goods, plan), given_back(net, goods, plan)
(True, (2, 1), 3, 1, (('a', 0, 1), ('a', 1, 1)), 2)
>>> is_plan(net, goods, ((("x", 0, 5),), ())), is_plan(net, goods, ((("x", 1, 2),), ())), is_plan(net, goods, ((("x", 2, 1),), ())), is_plan_for(net, goods, (4, 1), plan_for(net, goods, (4, 1)))
(False, False, False, True)
>>> to_spare(net, goods, plan, "a", 0), to_spare(net, goods, plan, "b", 1), idle_moves(net, goods, plan), leaner(net, goods, plan)
(1, 1, (('x', 0),), ((('x', 0, 2),), (('m', 1, 2), ('n', 0, 1))))
>>> both = net_from("hours 2; yard a 1; yard b 1; line k b a 1 1; line l a b 1 1; customer m a 1; customer n b 1")
>>> idle_moves(both, (("a", 0, 1), ("b", 0, 1)), ((("k", 0, 1), ("l", 0, 1)), (("m", 1, 1), ("n", 1, 1))))
()
>>> plan_for(net, goods, (5, 1))
raises CanNot()
'''

CUTS = r'''
>>> net, rows = net_from("hours 2; yard a 2; yard b 0; line x a b 1 1; customer m b 1; customer n a 0 1"), (("a", 0, 3),)
>>> is_cut(net, ("m",), (("b", 1),)), is_cut(net, ("n",), (("a", 0),)), cut_pieces(net, rows, (("b", 1),)), cut_value(net, rows, (("a", 1), ("b", 1)))
(True, False, (('line', 'x', 0, 1), ('room', 'b', 0, 0)), 3)
>>> least_cut(net, rows, ("m",)), widest_cut(net, rows, ("m",)), narrowest_cuts(net, rows, ("m",)), how_many_narrowest(net, rows, ("m", "n")), is_narrowest(net, rows, ("m",), (("a", 0), ("b", 1)))
((('b', 1),), (('b', 0), ('b', 1)), [(('b', 0), ('b', 1)), (('b', 1),)], 2, False)
>>> felt_pieces(net, rows, ("m",)), wanted_pieces(net, rows, ("m",)), wanted_pieces(net, rows, ("n",)), chain_of_cuts(net, rows, ("n", "m")), lost_between(net, (("a", 0),), (("b", 1),))
((('arrival', 'b', 1), ('line', 'x', 0)), (('line', 'x', 0),), (('arrival', 'a', 0),), ((), (('a', 0), ('a', 1)), (('a', 0), ('a', 1), ('b', 1))), 1)
>>> least_cut(net, rows, ("m", "p"))
raises NoCustomer(name='p')
'''

COVERS = r'''
>>> net, arrivals = net_from("hours 2; yard a 1; yard b 0; line x a b 1 2; customer m b 1; customer n a 0 1"), (("a", 0, 3), ("a", 1, 1))
>>> covers(net, arrivals), whole(net, arrivals), gain(net, arrivals, (), "n"), gain(net, arrivals, ("m",), "n")
((((), 0), (('m',), 2), (('m', 'n'), 4), (('n',), 4)), 4, 4, 2)
>>> can_be(net, arrivals, (2, 2)), over_set(net, arrivals, (2, 3)), over_set(net, arrivals, (3, 0)), room_beside(net, arrivals, (1, 2), "n")
(True, ('m', 'n'), ('m',), 1)
>>> is_cover_plan(net, arrivals, ("m",), ((("x", 0, 2),), (("m", 1, 2), ("n", 0, 1)))), wished_cover(net, arrivals, (5, 1), ("m", "n")), are_apart(net, arrivals, ("m",), ("n",)), how_many_takings(net, arrivals)
(True, 3, False, 12)
>>> cover(net, arrivals, ("m", "z"))
raises NoCustomer(name='z')
'''

FULLS = r'''
>>> net = net_from("hours 2; yard a 5; yard b 0; line x a b 0 2; customer m b 0 1; customer n a 1; customer p b 1")
>>> arrivals, taking = (("a", 0, 3),), (1, 0, 2)
>>> full_sets(net, arrivals, taking), greatest_full(net, arrivals, taking), [least_full(net, arrivals, taking, name) for name in "mnp"]
([(), ('m', 'n', 'p'), ('m', 'p'), ('p',)], ('m', 'n', 'p'), [('m', 'p'), ('m', 'n', 'p'), ('p',)])
>>> [givers(net, arrivals, taking, name) for name in "mnp"], getters(net, arrivals, taking, "p"), can_give(net, arrivals, taking, "m", "p"), can_get(net, arrivals, taking)
([('p',), ('m', 'p'), ()], ('m', 'n'), False, ())
>>> knots(net, arrivals, taking), full_chain(net, arrivals, taking), can_get(net, arrivals, (1, 0, 1)), full_sets(net, arrivals, (1, 0, 1)), least_full(net, arrivals, (1, 0, 1), "p")
((('m',), ('n',), ('p',)), ((), ('p',), ('m', 'p'), ('m', 'n', 'p')), ('m', 'n', 'p'), [()], None)
>>> is_full_paper(net, arrivals, taking, ("p",), (("b", 1),)), is_full_paper(net, arrivals, taking, ("n",), (("a", 1),)), is_loose_paper(net, arrivals, taking, ("n",), ((), (("n", 1, 1),))), loose_paper(net, arrivals, taking, ("p",))
(True, False, True, None)
>>> always_full(net, arrivals, ("p",)), always_full(net, arrivals, ("m", "n", "p")), both_full(net, arrivals, ("m",), ("p",)), both_full(net, arrivals, ("m", "n"), ("n", "p")), chain_taking(net, arrivals, (("p",), ("m", "p")))
(False, True, False, True, (1, 0, 2))
>>> is_full(net, arrivals, (2, 0, 2), ())
raises CanNot()
>>> least_full(net, arrivals, taking, "z")
raises NoCustomer(name='z')
'''


def all_names():
    found = {}
    for place in PLACES:
        found.update(vars(importlib.import_module(PACKAGE + "." + place)))
    return found


class Examples(unittest.TestCase):
    def check_raises(self, source, names, error, kept):
        with self.assertRaises(names["FreightError"], msg=source) as caught:
            eval(source, names)
        self.assertEqual(type(caught.exception).__name__, error, source)
        self.assertEqual(vars(caught.exception), eval("dict(" + kept + ")"), source)

    def check_rows(self, text):
        names = all_names()
        rows = text.strip().split("\n")
        asked = 0
        for at, row in enumerate(rows):
            if not row.startswith(">>> "):
                continue
            source = row[4:]
            answer = rows[at + 1] if at + 1 < len(rows) else ">>> "
            raised = re.fullmatch(r"raises (\w+)\((.*)\)", answer)
            if answer.startswith(">>> "):
                exec(source, names)
            elif raised:
                self.check_raises(source, names, raised[1], raised[2])
                asked += 1
            else:
                self.assertEqual(repr(eval(source, names)), answer, source)
                asked += 1
        self.assertGreater(asked, 2)

    def test_readme(self):
        readme = os.path.join(os.path.dirname(os.path.dirname(os.path.abspath(__file__))), "README.md")
        failed, asked = doctest.testfile(readme, module_relative=False)
        self.assertEqual((failed, asked > 4), (0, True))

    def test_nets(self):
        self.check_rows(NETS)

    def test_texts(self):
        self.check_rows(TEXTS)

    def test_plans(self):
        self.check_rows(PLANS)

    def test_cuts(self):
        self.check_rows(CUTS)

    def test_covers(self):
        self.check_rows(COVERS)

    def test_fulls(self):
        self.check_rows(FULLS)


if __name__ == "__main__":
    unittest.main()
