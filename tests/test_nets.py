"""NETS: what is one, what stands in it, what is reached, others made of it, texts."""

import random
import unittest

from helpers import NAMES, STRANGE, all_spots, as_lists, chance_net, own_spots, people

from freightrights.errors import BadText, Known, NoCustomer, NoLine, NotNet, NoYard
from freightrights.nets import arrives, customer_names, customers_reached, is_arrivals, is_net, is_taking, line_names
from freightrights.nets import line_of, net_from, net_text, place_of, reached_spots, room_of, spots, spots_of
from freightrights.nets import with_customer, with_line, with_most, with_room, without_customer, without_line
from freightrights.nets import yard_names

YARDS = (("a", 2), ("b", 0))
LINES = (("x", "a", "b", 1, 4),)
PEOPLE = (("m", "b", (1, 2)), ("n", "a", (0,)))
NET = (3, YARDS, LINES, PEOPLE)
GREAT = 10 ** 40


class IsNet(unittest.TestCase):
    def test_nets(self):
        for net in (NET, (1, (("a", 0),), (), ()), (3, YARDS, (), ()), (3, YARDS, LINES, ()), (3, YARDS, (), PEOPLE),
                    (GREAT, (("a", GREAT),), (), (("m", "a", (0, GREAT - 1)),)),
                    (2, YARDS, (("x", "a", "b", GREAT, GREAT),), (("m", "a", ()),)),
                    (1, (("abcdefgh", 0), ("z", 1)), (("z", "z", "abcdefgh", 0, 0),), (("z", "z", (0,)),))):
            self.assertIs(is_net(net), True, net)

    def test_wrong_hours(self):
        for hours in (0, -1, True, None, "3", (3,), [3]):
            self.assertIs(is_net((hours, YARDS, (), ())), False, hours)

    def test_wrong_yards(self):
        for yards in ((), [("a", 0)], (["a", 0],), (("b", 0), ("a", 0)), (("a", 0), ("a", 0)), (("a", 0), ("a", 1)),
                      (("a", -1),), (("a", True),), (("a", None),), (("a",),), (("a", 0, 0),), (("", 0),),
                      (("abcdefghi", 0),), (("A", 0),), (("a1", 0),), (("a ", 0),), (("\u00e4", 0),), (("\u00df", 0),),
                      ((1, 0),), ((None, 0),), "a", None, 0, ("a", 0), (("a", "0"),), (("a\n", 0),), (("_", 0),)):
            self.assertIs(is_net((3, yards, (), ())), False, yards)

    def test_one_wrong_of_two(self):
        for yard in (("b", -1), ("b", True), ("b",), ("B", 0), ["b", 0], None, ("b", 0, 0), ("", 0), (None, 0)):
            self.assertIs(is_net((3, (("a", 0), yard), (), ())), False, yard)
        for line in (("y", "a", "b", -1, 1), ("y", "a", "c", 1, 1), ("y", "a", "b", 1), ["y", "a", "b", 1, 1], None):
            self.assertIs(is_net((3, YARDS, LINES + (line,), ())), False, line)
        for row in (("o", "a", (3,)), ("o", "c", ()), ("o", "a"), ["o", "a", ()], None, ("o", "a", [])):
            self.assertIs(is_net((3, YARDS, LINES, PEOPLE + (row,))), False, row)
        for row in (("b", 3, 1), ("b", 0, 0), ("c", 0, 1), ["b", 0, 1], ("b", 0), None):
            self.assertIs(is_arrivals(NET, (("a", 0, 1), row)), False, row)

    def test_wrong_lines(self):
        for lines in ([], [("x", "a", "b", 0, 0)], (["x", "a", "b", 0, 0],), (("x", "a", "a", 1, 1),),
                      (("x", "a", "c", 1, 1),), (("x", "c", "a", 1, 1),), (("x", "a", "b", -1, 1),),
                      (("x", "a", "b", 1, -1),), (("x", "a", "b", True, 1),), (("x", "a", "b", 1, False),),
                      (("X", "a", "b", 1, 1),), (("", "a", "b", 1, 1),), (("x", "a", "b", 1),),
                      (("x", "a", "b", 1, 1, 1),), (("x", ["a"], "b", 1, 1),), (("x", "a", ("b",), 1, 1),),
                      (("x", "a", "b", 1, 1), ("x", "b", "a", 1, 1)), (("x", "a", "b", 1, 1), ("x", "a", "b", 1, 1)),
                      (("y", "a", "b", 1, 1), ("x", "a", "b", 1, 1)), None, (None,), (0,), "x", ("xabcd",),
                      (("x", 0, 1, 1, 1),), (("x", True, "a", 1, 1),)):
            self.assertIs(is_net((3, YARDS, lines, ())), False, lines)

    def test_wrong_customers(self):
        for rows in ([], [("m", "a", ())], (["m", "a", ()],), (("m", "c", ()),), (("m", "a", [0]),), (("m", "a", (3,)),),
                     (("m", "a", (-1,)),), (("m", "a", (1, 0)),), (("m", "a", (1, 1)),), (("m", "a", (True,)),),
                     (("m", "a", (0, GREAT)),), (("m", "a", 0),), (("m", "a", None),), (("m", "a"),),
                     (("m", "a", (), 0),), (("M", "a", ()),), (("m", "a", ()), ("m", "b", ())),
                     (("n", "a", ()), ("m", "a", ())), (("m", ["a"], ()),), (("m", "a", ("0",)),), (("m", "a", ([],)),),
                     (("m", "a", "0"),), (("m", None, ()),), None, "m"):
            self.assertIs(is_net((3, YARDS, (), rows)), False, rows)

    def test_rings(self):
        yards = tuple((name, 0) for name in "abcdef")

        def told(*ends):
            lines = tuple((NAMES[k], ends[k][0], ends[k][1], int(ends[k][2:] or "0"), 1) for k in range(len(ends)))
            return is_net((3, yards, lines, ()))

        self.assertFalse(told("ab", "ba"))
        self.assertFalse(told("ab", "bc", "ca"))
        self.assertFalse(told("ab", "bc", "cd", "da"))
        self.assertFalse(told("ea", "ab", "bc", "cd", "db", "df"))
        self.assertFalse(told("ab", "cd", "dc"))
        self.assertFalse(told("ab", "bc", "cd", "de", "ed"))
        self.assertFalse(told("af", "ab", "bc", "cd", "de", "ef", "fe"))
        self.assertTrue(told("ab", "ba1"))
        self.assertTrue(told("ab", "bc", "ca2"))
        self.assertTrue(told("ab", "bc", "ac", "cd", "ad"))
        self.assertTrue(told("ab", "ab", "cb", "cd"))
        self.assertTrue(told("ab1", "ba1"))
        self.assertFalse(is_net((1, YARDS, (("x", "a", "b", 0, 0), ("y", "b", "a", 0, 0)), ())))

    def test_long_ring(self):
        names = sorted({a + b + c for a in "abcdefghijklm" for b in "abcdefghijklm" for c in "abcdefghijklm"})
        yards = tuple((name, 0) for name in names)
        row = tuple((name, name, names[k + 1], 0, 1) for k, name in enumerate(names[:-1]))
        self.assertIs(is_net((1, yards, row, ())), True)
        self.assertIs(is_net((1, yards, row + ((names[-1], names[-1], names[0], 0, 1),), ())), False)

    def test_strange_things(self):
        for thing in STRANGE:
            self.assertIs(is_net(thing), thing == (1, (("a", 0),), (), ()) and thing[0] is not True and
                          thing[1][0][1] is not True)
        for part in range(4):
            for thing in STRANGE:
                other = (NET[:part] + (thing,) + NET[part + 1:])
                self.assertIn(is_net(other), (True, False))
        self.assertIs(is_net(as_lists(NET)), False)
        self.assertIs(is_net((3, [("a", 2), ("b", 0)], LINES, PEOPLE)), False)


class IsArrivals(unittest.TestCase):
    def test_arrivals(self):
        for rows in ((), (("a", 0, 1),), (("a", 0, GREAT), ("a", 2, 1), ("b", 1, 3)), (("b", 2, 5),)):
            self.assertIs(is_arrivals(NET, rows), True, rows)
            self.assertIs(is_arrivals(as_lists(NET), rows), True, rows)

    def test_wrong(self):
        for rows in ([], [("a", 0, 1)], (["a", 0, 1],), (("c", 0, 1),), (("a", 3, 1),), (("a", -1, 1),),
                     (("a", GREAT, 1),), (("a", 0, 0),), (("a", 0, -1),), (("a", True, 1),), (("a", 0, True),),
                     (("a", 0, None),), (("a", "0", 1),), (("a", 0),), (("a", 0, 1, 1),), (("b", 0, 1), ("a", 0, 1)),
                     (("a", 1, 1), ("a", 0, 1)), (("a", 0, 1), ("a", 0, 1)), (("a", 0, 1), ("a", 0, 2)), None, "a",
                     ("a", 0, 1), (([], 0, 1),), (("A", 0, 1),)):
            self.assertIs(is_arrivals(NET, rows), False, rows)

    def test_strange_things(self):
        for thing in STRANGE:
            right = thing == () or (thing == (("a", 0, 1),) and thing[0][1] is not True and thing[0][2] is not True)
            self.assertIs(is_arrivals(NET, thing), right and isinstance(thing, tuple))


class IsTaking(unittest.TestCase):
    def test_takings(self):
        for taking in ((0, 0), (1, 5), (GREAT, 0)):
            self.assertIs(is_taking(NET, taking), True)
            self.assertIs(is_taking(as_lists(NET), taking), True)
        self.assertIs(is_taking((1, (("a", 0),), (), ()), ()), True)

    def test_wrong(self):
        for taking in ((), (1,), (1, 2, 3), [1, 2], (-1, 0), (0, True), (False, 0), (0, None), ("0", "1"), "ab", None, 2):
            self.assertIs(is_taking(NET, taking), False, taking)
        for thing in STRANGE:
            self.assertIs(is_taking(NET, thing), thing in ((1, 2), (0, 0)) and isinstance(thing, tuple))


class Parts(unittest.TestCase):
    def test_names(self):
        self.assertEqual((yard_names(NET), line_names(NET), customer_names(NET)), (("a", "b"), ("x",), ("m", "n")))
        self.assertEqual((line_names((1, YARDS, (), ())), customer_names((1, YARDS, (), ()))), ((), ()))

    def test_rows(self):
        self.assertEqual((room_of(NET, "a"), room_of(NET, "b")), (2, 0))
        self.assertEqual(line_of(NET, "x"), ("a", "b", 1, 4))
        self.assertEqual((place_of(NET, "m"), place_of(NET, "n")), (("b", (1, 2)), ("a", (0,))))
        self.assertEqual(place_of(as_lists(NET), "m"), ("b", (1, 2)))
        self.assertEqual(line_of(as_lists(NET), "x"), ("a", "b", 1, 4))

    def test_no_such_names(self):
        for name in ("c", "", "A", "m", "x", "a b", "\u00e4", "hours"):
            for call, error in ((room_of, NoYard), (line_of, NoLine), (place_of, NoCustomer), (without_line, NoLine),
                                (without_customer, NoCustomer)):
                if (call, name) not in ((line_of, "x"), (place_of, "m"), (without_line, "x"), (without_customer, "m")):
                    with self.assertRaises(error) as caught:
                        call(NET, name)
                    self.assertEqual(caught.exception.name, name)
        for call in (with_room, reached_spots, customers_reached):
            with self.assertRaises(NoYard) as caught:
                call(NET, "x", 1)
            self.assertEqual(caught.exception.name, "x")
        with self.assertRaises(NoLine) as caught:
            with_most(NET, "a", 1)
        self.assertEqual(caught.exception.name, "a")

    def test_spots(self):
        self.assertEqual(spots(NET), (("a", 0), ("a", 1), ("a", 2), ("b", 0), ("b", 1), ("b", 2)))
        self.assertEqual(spots_of(NET, ()), ())
        self.assertEqual(spots_of(NET, ("n",)), (("a", 0),))
        both = (2, YARDS, (), (("m", "b", (0, 1)), ("n", "b", (1,)), ("o", "a", ())))
        self.assertEqual(spots_of(both, ("m", "n")), (("b", 0), ("b", 1)))
        self.assertEqual(spots_of(both, ("o",)), ())
        for some, first in ((("m", "q", "z"), "q"), (("", "m"), ""), (("a",), "a")):
            with self.assertRaises(NoCustomer) as caught:
                spots_of(NET, some)
            self.assertEqual(caught.exception.name, first)

    def test_spots_by_chance(self):
        for seed in range(60):
            net, _ = chance_net(seed, 6, 5, 8, 6)
            self.assertTrue(is_net(net))
            self.assertEqual(spots(net), tuple(all_spots(net)))
            self.assertEqual(spots_of(net, people(net)[::2]), tuple(sorted(own_spots(net, people(net)[::2]))))

    def test_arrives(self):
        rows = (("a", 0, 7), ("a", 2, GREAT), ("b", 0, 1))
        self.assertEqual([arrives(rows, "a", hour) for hour in (0, 1, 2, 3, -1, GREAT)], [7, 0, GREAT, 0, 0, 0])
        self.assertEqual([arrives(rows, yard, 0) for yard in ("b", "c", "", "A", "a ", "\u00e4")], [1, 0, 0, 0, 0, 0])
        self.assertEqual(arrives((), "a", 0), 0)
        self.assertEqual(arrives(as_lists(rows), "a", 2), GREAT)


class Reached(unittest.TestCase):
    def test_room_and_most(self):
        def told(room, most, late):
            net = (3, (("a", room), ("b", 0)), (("x", "a", "b", late, most),), (("m", "b", (1,)), ("n", "a", (2,))))
            return reached_spots(net, "a", 0), customers_reached(net, "a", 0)

        self.assertEqual(told(0, 0, 0), ((("a", 0),), ()))
        self.assertEqual(told(1, 0, 0), ((("a", 0), ("a", 1), ("a", 2)), ("n",)))
        self.assertEqual(told(0, 1, 0), ((("a", 0), ("b", 0)), ()))
        self.assertEqual(told(0, 1, 1), ((("a", 0), ("b", 1)), ("m",)))
        self.assertEqual(told(1, 1, 0), ((("a", 0), ("a", 1), ("a", 2), ("b", 0), ("b", 1), ("b", 2)), ("m", "n")))
        self.assertEqual(told(0, 1, 3), ((("a", 0),), ()))
        self.assertEqual(told(1, 1, 2), ((("a", 0), ("a", 1), ("a", 2), ("b", 2)), ("n",)))

    def test_several_lines_of_late_0(self):
        net = (1, (("a", 0), ("b", 0), ("c", 0)), (("x", "b", "c", 0, 1), ("y", "a", "b", 0, 1)), (("m", "c", (0,)),))
        self.assertEqual(reached_spots(net, "a", 0), (("a", 0), ("b", 0), ("c", 0)))
        self.assertEqual((customers_reached(net, "a", 0), reached_spots(net, "c", 0)), (("m",), (("c", 0),)))

    def test_by_chance(self):
        for seed in range(80):
            net, _ = chance_net(seed, 5, 5, 8, 5)
            steps = {(s, s) for s in all_spots(net)}
            for spot in all_spots(net):
                if dict(net[1])[spot[0]] > 0:
                    steps.add((spot, (spot[0], spot[1] + 1)))
                for _, start, goal, late, most in net[2]:
                    if start == spot[0] and most > 0:
                        steps.add((spot, (goal, spot[1] + late)))
            for spot in all_spots(net)[::3]:
                found = {spot}
                for _ in all_spots(net):
                    found |= {goal for start, goal in steps if start in found and goal[1] < net[0]}
                self.assertEqual(reached_spots(net, spot[0], spot[1]), tuple(sorted(found)))
                names = tuple(name for name in people(net) if own_spots(net, (name,)) & found)
                self.assertEqual(customers_reached(net, spot[0], spot[1]), names)


class Others(unittest.TestCase):
    def test_room_and_most(self):
        self.assertEqual(with_room(NET, "a", 9), (3, (("a", 9), ("b", 0)), LINES, PEOPLE))
        self.assertEqual(with_room(NET, "b", GREAT), (3, (("a", 2), ("b", GREAT)), LINES, PEOPLE))
        self.assertEqual(with_most(NET, "x", 0), (3, YARDS, (("x", "a", "b", 1, 0),), PEOPLE))
        self.assertEqual(with_room(NET, "a", 2), NET)

    def test_with_line(self):
        for line in ("a", "y", "w"):
            new = with_line(NET, line, "b", "a", 0, 3)
            self.assertEqual(new, (3, YARDS, tuple(sorted(LINES + ((line, "b", "a", 0, 3),))), PEOPLE))
            self.assertTrue(is_net(new))
            self.assertEqual(without_line(new, line), NET)
        self.assertEqual(without_line(NET, "x"), (3, YARDS, (), PEOPLE))

    def test_with_line_errors(self):
        ring = (3, YARDS, (("x", "a", "b", 0, 4),), PEOPLE)
        for net, told, error, kept in (
                (NET, ("x", "c", "d", 0, 1), Known, {"name": "x"}), (NET, ("x", "a", "a", 0, 1), Known, {"name": "x"}),
                (NET, ("y", "c", "d", 0, 1), NoYard, {"name": "c"}), (NET, ("y", "a", "d", 0, 1), NoYard, {"name": "d"}),
                (NET, ("y", "c", "c", 0, 1), NoYard, {"name": "c"}), (NET, ("y", "", "a", 0, 1), NoYard, {"name": ""}),
                (NET, ("y", "a", "a", 1, 1), NotNet, {}), (ring, ("y", "b", "a", 0, 1), NotNet, {}),
                (ring, ("y", "b", "z", 0, 1), NoYard, {"name": "z"}), (ring, ("x", "b", "a", 0, 1), Known, {"name": "x"})):
            with self.assertRaises(error) as caught:
                with_line(net, *told)
            self.assertEqual(vars(caught.exception), kept, told)
        self.assertEqual(len(with_line(ring, "y", "b", "a", 1, 1)[2]), 2)

    def test_customers(self):
        for name, hours in (("a", ()), ("o", (0, 2)), ("mm", (1,))):
            new = with_customer(NET, name, "a", hours)
            self.assertEqual(new, (3, YARDS, LINES, tuple(sorted(PEOPLE + ((name, "a", hours),)))))
            self.assertTrue(is_net(new))
            self.assertEqual(with_customer(NET, name, "a", list(hours)), new)
            self.assertEqual(without_customer(new, name), NET)
        with self.assertRaises(Known) as caught:
            with_customer(NET, "m", "c", ())
        self.assertEqual(caught.exception.name, "m")
        with self.assertRaises(NoYard) as caught:
            with_customer(NET, "o", "c", ())
        self.assertEqual(caught.exception.name, "c")
        self.assertEqual(without_customer(NET, "n"), (3, YARDS, LINES, PEOPLE[:1]))


class Texts(unittest.TestCase):
    def test_there_and_back(self):
        for seed in range(200):
            net, _ = chance_net(seed, 6, 5, 8, 6, seed % 2 == 0)
            text = net_text(net)
            self.assertEqual(net_from(text), net)
            self.assertEqual(net_text(as_lists(net)), text)
            self.assertTrue(is_net(net_from(text)))

    def test_text(self):
        self.assertEqual(net_text(NET), "hours 3; yard a 2; yard b 0; line x a b 1 4; customer m b 1 2; customer n a 0")
        self.assertEqual(net_text((1, (("a", GREAT),), (), (("m", "a", ()),))), "hours 1; yard a 1" + "0" * 40 + "; customer m a")
        self.assertEqual(net_from("hours 1; yard a " + "9" * 40), (1, (("a", int("9" * 40)),), (), ()))

    def check_bad(self, text, piece):
        with self.assertRaises(BadText, msg=text) as caught:
            net_from(text)
        self.assertEqual(caught.exception.piece, piece, text)

    def test_bad_hours(self):
        for text in ("", "hours", "hours 0", "hours 03", "hours -1", "hours +1", "hours x", "hours  3", "hours 3 ",
                     " hours 3", "hours 3 4", "hour 3", "Hours 3", "hours 3;", "hours 1_0", "hours \u00b2", "hours \u0663",
                     "yard a 2", "-", "hours 3\n", "hours\t3", "hours 3;yard a 2", "hours 3.0"):
            self.check_bad(text, 0)
            self.check_bad(text + "; yard a 2; yard b 0", 0)

    def test_no_yard(self):
        self.check_bad("hours 3", 1)
        self.check_bad("hours 3; ", 1)
        self.check_bad("hours 3; line x a b 1 4", 1)
        self.check_bad("hours 3; customer m a", 1)
        self.check_bad("hours " + "9" * 40, 1)

    def test_bad_pieces(self):
        good = ["hours 3", "yard a 2", "yard b 0", "line x a b 1 4", "line y b a 0 1", "customer m b 1 2", "customer n a"]
        self.assertTrue(is_net(net_from("; ".join(good))))
        wrong = {
            0: ["hours 0", "hour 3"],
            1: ["yard", "yard a", "yard a 2 2", "yard  a 2", "yard a  2", "yard a 2 ", "yard a 02", "yard a -2", "yard a x",
                "yard A 2", "yard abcdefghi 2", "yard 1 2", "Yard a 2", "yart a 2", "", " ", ";", "line x a b 1 4",
                "customer m a", "hours 3", "yard \u00e4 2", "yard a \u0662", "yard a 2\n", "yard a 2;"],
            2: ["yard a 0", "yard a 3", "yard aa", "hours 3", "yard  0", "yard b 00", "line x a b 1 4"],
            3: ["line x a c 1 4", "line x c a 1 4", "line x a a 1 4", "line x a b 1", "line x a b 1 4 4", "line X a b 1 4",
                "line x a b 01 4", "line x a b 1 4x", "line x a b  1 4", "line  x a b 1 4", "line x a b -1 4", "hours 1",
                "line x a b 1 ", "lines x a b 1 4", "line x a b one 4"],
            4: ["line x b a 1 1", "line w b a 1 1", "yard c 0", "hours 3", "line y b a 0 01"],
            5: ["customer m c 1 2", "customer m b 2 1", "customer m b 1 1", "customer m b 3", "customer m b 1  2",
                "customer m b 1 2 ", "customer m", "customer", "customer m ", "customer M b 1", "customer m b 01",
                "customer m b x", "customer m b -1", "custom m b 1", "line x b a 1 1", "yard c 0"],
            6: ["customer m a", "customer l a", "customer n a 3", "line z a b 1 4", "yard z 0", "hours 3"],
        }
        for at, rows in wrong.items():
            for row in rows:
                self.check_bad("; ".join(good[:at] + [row] + good[at + 1:]), at)
                self.check_bad("; ".join(good[:at] + [row]), at)
                self.check_bad("; ".join(good[:at] + [row, "?", ""]), at)

    def test_rings_and_order(self):
        start = "hours 2; yard a 0; yard b 0; yard c 0; line p a b 0 1; line q b c 0 1; "
        self.check_bad(start + "line r c a 0 1", 6)
        self.check_bad(start + "line r c b 0 0; line s x", 6)
        self.assertEqual(len(net_from(start + "line r c a 1 1")[2]), 3)
        self.check_bad("hours 2; yard b 0; yard a 0", 2)
        self.check_bad("hours 2; yard a 0; customer m a; line p a b 0 1", 3)
        self.check_bad("hours 2; yard a 0; customer m a; yard b 1", 3)
        self.check_bad("hours 2; hours 2; yard a 0", 1)
        self.check_bad("hours 2; yard a 0; ", 2)
        self.check_bad("hours 2; yard a 0;  yard b 0", 2)

    def test_changed_signs(self):
        """Whatever sign is put in, out or in another's place: a NET with just this text, or BadText."""
        chance = random.Random(5)
        text = net_text(NET)
        signs = "ab 0129;xz-\n\t\u00e4\u0661\u3000\U0001f600AZ{}_\\\"'"
        for _ in range(3000):
            at = chance.randrange(len(text) + 1)
            other = text[:at] + chance.choice(["", chance.choice(signs)]) + text[at + chance.randint(0, 2):]
            try:
                self.assertEqual(net_text(net_from(other)), other)
            except BadText as error:
                self.assertTrue(0 <= error.piece <= other.count("; ") + 1)
                whole = other.split("; ")[:error.piece]
                if error.piece > 1:
                    self.assertEqual(net_text(net_from("; ".join(whole))), "; ".join(whole))

    def test_any_string(self):
        for thing in STRANGE:
            if isinstance(thing, str) and thing != "hours 1; yard a 0":
                self.check_bad(thing, 0)


if __name__ == "__main__":
    unittest.main()
