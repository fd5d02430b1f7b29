"""CUTS against all sets of spots of small NETS, each looked at line by line and hour by hour."""

import unittest

from helpers import STRANGE, all_spots, as_lists, chance_net, cuts_with_values, least_value, own_spots, parts, people, value

from freightrights.cuts import chain_of_cuts, cut_pieces, cut_value, felt_pieces, how_many_narrowest, is_cut, is_narrowest
from freightrights.cuts import least_cut, lost_between, narrowest_cuts, wanted_pieces, widest_cut
from freightrights.errors import NoCustomer, OtherCustomers

NET = (2, (("a", 2), ("b", 0)), (("x", "a", "b", 1, 1),), (("m", "b", (1,)), ("n", "a", (0, 1))))
GOODS = (("a", 0, 3),)
GREAT = 10 ** 30


def small_nets(many, most_spots=8):
    """NETS of so few spots that all sets of them can be gone through."""
    seed = 0
    found = 0
    while found < many:
        net, arrivals = chance_net(seed, 4, 3, 5, 3, seed % 5 == 0)
        seed += 1
        if len(all_spots(net)) <= most_spots:
            found += 1
            yield net, arrivals


def all_pieces(net):
    hours, yards, lines, _ = net
    rows = [("arrival", yard, hour) for yard, _ in yards for hour in range(hours)]
    rows += [("line", line, hour) for line, _, _, late, _ in lines for hour in range(hours) if hour + late < hours]
    return rows + [("room", yard, hour) for yard, _ in yards for hour in range(hours - 1)]


def ends(net, piece):
    word, name, hour = piece
    if word == "room":
        return (name, hour), (name, hour + 1)
    row = [line for line in net[2] if line[0] == name][0]
    return (row[1], hour), (row[2], hour + row[3])


def changed_value(net, arrivals, far, piece, more):
    """The value with so much more of just this piece at this hour."""
    total = value(net, arrivals, far)
    if piece[0] == "arrival":
        return total + (more if piece[1:] in far else 0)
    start, goal = ends(net, piece)
    return total + (more if start not in far and goal in far else 0)


def amount(net, arrivals, piece):
    if piece[0] == "arrival":
        return sum(row[2] for row in arrivals if row[:2] == piece[1:])
    rows, place = (net[2], 4) if piece[0] == "line" else (net[1], 1)
    return [row[place] for row in rows if row[0] == piece[1]][0]


class Values(unittest.TestCase):
    def test_pieces(self):
        for net, arrivals in small_nets(40, 6):
            for far, number in cuts_with_values(net, arrivals, ()):
                rows = []
                for piece in all_pieces(net):
                    if piece[0] == "arrival":
                        if piece[1:] in far and amount(net, arrivals, piece) > 0:
                            rows.append(piece + (amount(net, arrivals, piece),))
                    elif ends(net, piece)[0] not in far and ends(net, piece)[1] in far:
                        rows.append(piece + (amount(net, arrivals, piece),))
                self.assertEqual(cut_pieces(net, arrivals, far), tuple(rows))
                self.assertEqual(list(rows), sorted(rows))
                self.assertEqual(cut_value(net, arrivals, far), number)
                self.assertEqual(cut_value(as_lists(net), as_lists(arrivals), as_lists(far)), number)

    def test_late_lines(self):
        net = (3, (("a", 0), ("b", 0)), (("x", "a", "b", 0, 2), ("y", "a", "b", 3, 5), ("z", "b", "a", 2, 7)), ())
        self.assertEqual(cut_pieces(net, (), (("a", 2), ("b", 0))), (("line", "x", 0, 2), ("room", "a", 1, 0)))
        self.assertEqual(cut_pieces(net, (), (("a", 2),)), (("line", "z", 0, 7), ("room", "a", 1, 0)))
        self.assertEqual(cut_value(net, (("a", 2, GREAT),), (("a", 2),)), GREAT + 7)

    def test_is_cut(self):
        for net, _ in small_nets(25, 6):
            for some in parts(people(net)):
                for far, _ in cuts_with_values(net, (), ()):
                    right = own_spots(net, some) <= set(far)
                    self.assertIs(is_cut(net, some, far), right)
                    self.assertIs(is_cut(as_lists(net), list(some), far), right)
                    self.assertIs(is_cut(net, some, as_lists(far)), False)

    def test_wrong_things(self):
        for far in ((("b", 1), ("a", 0)), (("b", 1), ("b", 1)), (("b", 1), ("b", 2)), (("b", 1), ("c", 0)), (("a", -1), ("b", 1)),
                    (("b", True),), (("b", 1, 1),), (("b",),), ("b", 1), (["b", 1],), [("b", 1)], None, (("b", "1"),), ((["b"], 1),), (),
                    (("a", 0), ("a", 1), ("b", 0)), (("b", GREAT),)):
            self.assertIs(is_cut(NET, ("m",), far), False, far)
            self.assertIs(is_narrowest(NET, GOODS, ("m",), far), False, far)
        for thing in STRANGE:
            right = isinstance(thing, tuple) and (thing == () or (thing == (("a", 0),) and thing[0][1] is not True))
            self.assertIs(is_cut(NET, (), thing), right)
            self.assertIs(is_narrowest(NET, GOODS, (), thing), thing == () and isinstance(thing, tuple))

    def test_lost_between(self):
        for net, arrivals in small_nets(12, 6):
            rows = cuts_with_values(net, arrivals, ())
            for one, first in rows[::3]:
                for other, second in rows[::5]:
                    lost = 0
                    for piece in all_pieces(net):
                        if piece[0] != "arrival":
                            start, goal = ends(net, piece)
                            alone = (set(one) - set(other), set(other) - set(one))
                            if (start in alone[0] and goal in alone[1]) or (start in alone[1] and goal in alone[0]):
                                lost += amount(net, arrivals, piece)
                    self.assertEqual(lost_between(net, one, other), lost)
                    both = value(net, arrivals, set(one) & set(other)) + value(net, arrivals, set(one) | set(other))
                    self.assertEqual(both + lost, first + second)
                    self.assertEqual(lost_between(as_lists(net), as_lists(one), as_lists(other)), lost)


class Narrowest(unittest.TestCase):
    def test_by_all_sets(self):
        for net, arrivals in small_nets(70):
            for some in parts(people(net)):
                rows = cuts_with_values(net, arrivals, some)
                least = min(number for _, number in rows)
                narrow = sorted(far for far, number in rows if number == least)
                self.assertEqual(narrowest_cuts(net, arrivals, some), narrow)
                self.assertEqual(how_many_narrowest(net, arrivals, some), len(narrow))
                self.assertEqual(least_cut(net, arrivals, some), min(narrow, key=len))
                self.assertEqual(widest_cut(net, arrivals, some), max(narrow, key=len))
                self.assertTrue(all(set(least_cut(net, arrivals, some)) <= set(far) for far in narrow))
                self.assertTrue(all(set(widest_cut(net, arrivals, some)) >= set(far) for far in narrow))
                for far, number in rows[::3]:
                    self.assertIs(is_narrowest(net, arrivals, some, far), number == least)

    def test_pieces_by_one_more_and_less(self):
        for net, arrivals in small_nets(45, 7):
            for some in parts(people(net)):
                rows = [far for far, _ in cuts_with_values(net, arrivals, some)]
                least = least_value(net, arrivals, some)
                felt, wanted = [], []
                for piece in all_pieces(net):
                    if min(changed_value(net, arrivals, far, piece, 1) for far in rows) == least + 1:
                        felt.append(piece)
                    if amount(net, arrivals, piece) > 0:
                        if min(changed_value(net, arrivals, far, piece, -1) for far in rows) == least - 1:
                            wanted.append(piece)
                self.assertEqual(felt_pieces(net, arrivals, some), tuple(felt))
                self.assertEqual(wanted_pieces(net, arrivals, some), tuple(wanted))

    def test_twelve_spots(self):
        net = (6, (("a", 0), ("b", 0)), (), (("m", "a", ()),))
        self.assertEqual(how_many_narrowest(net, (), ("m",)), 2 ** 12)
        rows = narrowest_cuts(net, (("a", 2, 1),), ())
        self.assertEqual((len(rows), rows[0], rows == sorted(rows)), (2 ** 11, (), True))

    def test_lists_are_new(self):
        first = narrowest_cuts(NET, GOODS, ("m",))
        first.append("x")
        self.assertEqual(narrowest_cuts(NET, GOODS, ("m",)), [(("b", 0), ("b", 1)), (("b", 1),)])

    def test_great_nets(self):
        """No set of spots has a lesser value than a PLAN carries: here only that the least and the widest agree."""
        for seed in range(30):
            net, arrivals = chance_net(seed, 6, 5, 8, 6, True)
            for some in parts(people(net))[::5]:
                least, widest = least_cut(net, arrivals, some), widest_cut(net, arrivals, some)
                self.assertTrue(own_spots(net, some) <= set(least) <= set(widest))
                self.assertEqual(value(net, arrivals, set(least)), value(net, arrivals, set(widest)))
                self.assertTrue(is_narrowest(net, arrivals, some, least) and is_narrowest(net, arrivals, some, widest))

    def test_chain(self):
        for net, arrivals in small_nets(30):
            for rank in (people(net), people(net)[::-1]):
                chain = chain_of_cuts(net, arrivals, rank)
                self.assertEqual(len(chain), len(rank) + 1)
                for many, far in enumerate(chain):
                    self.assertEqual(far, least_cut(net, arrivals, tuple(sorted(rank[:many]))))
                    self.assertTrue(many == 0 or set(chain[many - 1]) <= set(far))
                self.assertEqual(chain_of_cuts(as_lists(net), as_lists(arrivals), list(rank)), chain)


class Wrong(unittest.TestCase):
    def test_no_customer(self):
        for some, first in ((("z",), "z"), (("", "m"), ""), (("m", "p", "z"), "p"), (("a",), "a"), (("M", "m"), "M")):
            for call in (least_cut, widest_cut, narrowest_cuts, how_many_narrowest, felt_pieces, wanted_pieces):
                for names in (some, list(some)):
                    with self.assertRaises(NoCustomer) as caught:
                        call(NET, GOODS, names)
                    self.assertEqual(caught.exception.name, first)
            for thing in STRANGE:
                with self.assertRaises(NoCustomer) as caught:
                    is_cut(NET, some, thing)
                self.assertEqual(caught.exception.name, first)
                with self.assertRaises(NoCustomer):
                    is_narrowest(NET, GOODS, some, thing)

    def test_other_customers(self):
        for rank in ((), ("m",), ("m", "m"), ("m", "n", "n"), ("m", "n", "o"), ("m", "z"), ("", "m"), ("a", "b")):
            for row in (rank, list(rank)):
                with self.assertRaises(OtherCustomers):
                    chain_of_cuts(NET, GOODS, row)
        self.assertEqual(len(chain_of_cuts(NET, GOODS, ["n", "m"])), 3)
        bare = (1, (("a", 0),), (), ())
        self.assertEqual(chain_of_cuts(bare, (), ()), ((),))
        with self.assertRaises(OtherCustomers):
            chain_of_cuts(bare, (), ("m",))


if __name__ == "__main__":
    unittest.main()
