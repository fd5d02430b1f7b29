"""EDITS and Watches: done, taken back, in whatever order, against a NET that is put together anew."""

import random
import unittest

from helpers import STRANGE, as_lists, chance_net, check_raises, parts, people, ranks, same, some_hours

from freightrights.covers import can_be, cover
from freightrights.errors import NoCustomer, NoLine, NoNumber, NothingDone, NoYard, OtherCustomers
from freightrights.nets import is_arrivals, is_net
from freightrights.rights import by_rank
from freightrights.watches import Watch, do_commute, edited, is_edit, undone_by
from freightrights.works import gainers, losers

NET = (3, (("d", 0), ("m", 1)), (("q", "m", "d", 1, 5), ("r", "m", "d", 0, 2)), (("x", "d", (0, 1, 2)), ("y", "m", (1,))))
GOODS = (("m", 0, 3),)
BARE = (1, (("a", 0),), (), ())
GREAT = 10 ** 30
EDITS = (("most", "q", 0), ("room", "m", 3), ("arrive", "d", 2, 4), ("arrive", "m", 0, 0), ("hours", "y", ()), ("hours", "y", (0, 2)), ("stand", "x", "m"))


def edit_by_chance(chance, net):
    word = chance.choice(["most", "room", "arrive", "arrive", "hours", "stand"])
    if word == "most" and net[2]:
        return (word, chance.choice(net[2])[0], chance.choice([0, 1, 2, 5, GREAT]))
    if word == "hours" and net[3]:
        return (word, chance.choice(net[3])[0], some_hours(chance, net[0]))
    if word == "stand" and net[3]:
        return (word, chance.choice(net[3])[0], chance.choice(net[1])[0])
    if word == "room":
        return (word, chance.choice(net[1])[0], chance.choice([0, 1, 2, 5, GREAT]))
    return ("arrive", chance.choice(net[1])[0], chance.randrange(net[0]), chance.choice([0, 0, 1, 2, 7, GREAT]))


def put(net, goods, edit):
    """NET and ARRIVALS behind an EDIT, put together anew by dicts."""
    word, name = edit[:2]
    rooms = {row[0]: row[1] for row in net[1]}
    mosts = {row[0]: row[4] for row in net[2]}
    yards = {row[0]: row[1] for row in net[3]}
    hours = {row[0]: row[2] for row in net[3]}
    amounts = {row[:2]: row[2] for row in goods}
    {"most": mosts, "room": rooms, "hours": hours, "stand": yards, "arrive": {}}[word][name] = edit[-1]
    if word == "arrive":
        amounts[name, edit[2]] = edit[3]
    net = (net[0], tuple((name, rooms[name]) for name in rooms), tuple(row[:4] + (mosts[row[0]],) for row in net[2]),
           tuple((name, yards[name], hours[name]) for name in yards))
    return net, tuple(sorted(spot + (amounts[spot],) for spot in amounts if amounts[spot] > 0))


def put_all(net, goods, edits):
    for edit in edits:
        net, goods = put(net, goods, edit)
    return net, goods


def state(watch):
    return watch.net, watch.arrivals, watch.told, len(watch)


class Forms(unittest.TestCase):
    def test_right(self):
        for edit in EDITS + (("most", "", 0), ("room", "No yard!", 10 ** 5000), ("arrive", "a", 99, 0), ("hours", "z", (4, 99)), ("stand", "", ""), ("stand", "a", "b" * 99)):
            self.assertIs(is_edit(edit), True, edit)
            self.assertIs(is_edit(list(edit)), False)

    def test_wrong(self):
        for thing in (("most", "q"), ("most", "q", 1, 1), ("most", "q", -1), ("most", "q", True), ("most", "q", "1"), ("most", 1, 1), ("most", None, 1), ("most", ("q",), 1),
                      ("room", "m", ()), ("room", "m"), ("room", "m", 1, 2), ("arrive", "m", 1), ("arrive", "m", 1, 1, 1), ("arrive", "m", -1, 1), ("arrive", "m", 1, -1),
                      ("arrive", "m", True, 1), ("arrive", "m", 1, False), ("arrive", "m", "1", 1), ("hours", "y", [0, 1]), ("hours", "y", (1, 0)), ("hours", "y", (0, 0)),
                      ("hours", "y", 1), ("hours", "y", (True,)), ("hours", "y", (-1, 2)), ("hours", "y", ("0",)), ("hours", "y"), ("hours", "y", (), ()), ("hours", 1, ()),
                      ("stand", "x", 1), ("stand", "x"), ("stand", "x", "m", "d"), ("stand", "x", ("m",)), ("stand", None, "m"), ("Most", "q", 1), ("line", "q", 1), ("", "q", 1),
                      (True, "q", 1), ("most",), ("mostroom", "q", 1), ("m", "q", 1), ("hours", "y", ((0,),)), ("stand", "x", None)):
            self.assertIs(is_edit(thing), False, thing)
        for thing in STRANGE:
            self.assertIs(is_edit(thing), False)
            number = same(thing, 0) or same(thing, 1) or same(thing, 7) or thing in (GREAT, 10 ** 5000) and not isinstance(thing, tuple)
            for word in ("most", "room"):
                self.assertIs(is_edit((word, "q", thing)), number)
                self.assertIs(is_edit((word, thing, 1)), isinstance(thing, str))
            self.assertIs(is_edit(("arrive", "q", thing, 1)), number)
            self.assertIs(is_edit(("arrive", "q", 1, thing)), number)
            self.assertIs(is_edit(("stand", "q", thing)), isinstance(thing, str))
            self.assertIs(is_edit(("hours", "q", thing)), any(same(thing, row) for row in ((), (1,), (1, 2), (1, 2, 3))))
            self.assertIs(is_edit((thing, "q", 1)), False)


class Edited(unittest.TestCase):
    def test_each_word(self):
        words = set()
        for seed in range(300):
            chance = random.Random(seed)
            net, goods = chance_net(16000 + seed, 4, 4, 5, 4, seed % 3 == 0)
            edit = edit_by_chance(chance, net)
            words.add(edit[0])
            new = put(net, goods, edit)
            self.assertTrue(is_net(new[0]) and is_arrivals(*new))
            self.assertEqual(edited(net, goods, edit), new)
            self.assertEqual(edited(*as_lists((net, goods, edit))), new)
            back = undone_by(net, goods, edit)
            self.assertEqual(undone_by(*as_lists((net, goods, edit))), back)
            self.assertIs(is_edit(back), True)
            self.assertEqual((back[:2], back[2:3] if edit[0] == "arrive" else ()), (edit[:2], edit[2:3] if edit[0] == "arrive" else ()))
            self.assertEqual(edited(new[0], new[1], back), (net, goods))
            self.assertEqual(undone_by(new[0], new[1], back), edit)
        self.assertEqual(words, {"most", "room", "arrive", "hours", "stand"})

    def test_commuting(self):
        found = {True: 0, False: 0}
        for seed in range(400):
            chance = random.Random(seed)
            net, goods = chance_net(16400 + seed, 3, 2, 2, 2)
            one, other = edit_by_chance(chance, net), edit_by_chance(chance, net)
            right = put_all(net, goods, (one, other)) == put_all(net, goods, (other, one))
            found[right] += 1
            self.assertIs(do_commute(net, goods, one, other), right)
            self.assertIs(do_commute(*as_lists((net, goods, one, other))), right)
            self.assertEqual(right, one == other or one[:-1] != other[:-1])
        self.assertTrue(min(found.values()) > 20, found)

    def test_in_the_place_of_what_does(self):
        self.assertEqual(edited(NET, GOODS, ("arrive", "m", 0, 5))[1], (("m", 0, 5),))
        self.assertEqual(edited(NET, GOODS, ("arrive", "d", 2, GREAT))[1], (("d", 2, GREAT), ("m", 0, 3)))
        self.assertEqual((edited(NET, GOODS, ("arrive", "m", 0, 0)), edited(NET, (), ("arrive", "m", 0, 0))), ((NET, ()),) * 2)
        self.assertEqual((undone_by(NET, GOODS, ("arrive", "m", 1, 4)), undone_by(NET, GOODS, ("arrive", "m", 0, 4))), (("arrive", "m", 1, 0), ("arrive", "m", 0, 3)))


class Errors(unittest.TestCase):
    def rows(self):
        yield ("most", "z", 1), NoLine, "z"
        yield ("most", "m", 1), NoLine, "m"
        yield ("room", "q", 1), NoYard, "q"
        yield ("room", "", 1), NoYard, ""
        yield ("arrive", "z", 9, 1), NoYard, "z"
        yield ("arrive", "m", 3, 1), NoNumber, 3
        yield ("arrive", "m", GREAT, 0), NoNumber, GREAT
        yield ("hours", "z", (0, 9)), NoCustomer, "z"
        yield ("hours", "y", (0, 3, 9)), NoNumber, 3
        yield ["hours", "y", [0, 1, 4]], NoNumber, 4
        yield ("stand", "z", "w"), NoCustomer, "z"
        yield ("stand", "m", "w"), NoCustomer, "m"
        yield ("stand", "x", "w"), NoYard, "w"
        yield ("stand", "x", "x"), NoYard, "x"

    def test_functions(self):
        for edit, error, worth in self.rows():
            kept = {"number" if error is NoNumber else "name": worth}
            check_raises(self, error, kept, edited, NET, GOODS, edit)
            check_raises(self, error, kept, undone_by, NET, GOODS, edit)
            check_raises(self, error, kept, do_commute, NET, GOODS, edit, ("most", "q", 1))
            check_raises(self, error, kept, do_commute, NET, GOODS, ("most", "q", 1), edit)
            for other, second, _ in self.rows():
                check_raises(self, error, kept, do_commute, NET, GOODS, edit, other)

    def test_a_refused_edit_changes_nothing(self):
        watch = Watch(NET, GOODS)
        watch.do(("most", "q", 1))
        kept = state(watch)
        for edit, error, worth in self.rows():
            check_raises(self, error, {"number" if error is NoNumber else "name": worth}, watch.do, edit)
            self.assertEqual(state(watch), kept)
        for place in (1, 2, -1, -2, GREAT):
            check_raises(self, NoNumber, {"number": place}, watch.back_alone, place)
            self.assertEqual(state(watch), kept)
        watch.back()
        check_raises(self, NothingDone, {}, watch.back)
        for place in (0, -1, 1):
            check_raises(self, NoNumber, {"number": place}, watch.back_alone, place)
        self.assertEqual(state(watch), (NET, GOODS, (), 0))

    def test_asking(self):
        watch = Watch(NET, GOODS)
        for some, name in ((("z",), "z"), (("x", "z"), "z"), (["", "x"], "")):
            check_raises(self, NoCustomer, {"name": name}, watch.cover, some)
            check_raises(self, NoCustomer, {"name": name}, watch.least_cover, some)
        for rank in (("x",), ("x", "y", "z"), (), ["x", "x"]):
            check_raises(self, OtherCustomers, {}, watch.by_rank, rank)
        self.assertEqual(state(watch), (NET, GOODS, (), 0))


class Watches(unittest.TestCase):
    def test_by_chance(self):
        """A Watch against a plain list of EDITS, all put together anew each time."""
        done, back = 0, 0
        for seed in range(40):
            chance = random.Random(seed)
            net, goods = chance_net(16900 + seed, 3, 3, 4, 3, seed % 4 == 0)
            watch, told = Watch(net, goods), []
            for _ in range(25):
                deed = chance.choice(["do", "do", "do", "back", "alone", "twin"])
                if deed == "do":
                    edit = edit_by_chance(chance, net)
                    told.append(edit)
                    self.assertIsNone(watch.do(chance.choice([edit, as_lists(edit)])))
                    done += 1
                elif deed == "back" and told:
                    told.pop()
                    self.assertIsNone(watch.back())
                    back += 1
                elif deed == "alone" and told:
                    place = chance.randrange(len(told))
                    told.pop(place)
                    self.assertIsNone(watch.back_alone(place))
                    back += 1
                elif deed == "twin":
                    watch = watch.twin()
                self.assertEqual(state(watch), put_all(net, goods, told) + (tuple(told), len(told)))
            self.check_states(chance, watch, [put_all(net, goods, told[:many]) for many in range(len(told) + 1)])
        self.assertGreater(done * back, 10000)

    def check_states(self, chance, watch, states):
        names = people(states[0][0])
        for some in parts(names):
            numbers = [cover(net, goods, some) for net, goods in states]
            self.assertEqual((watch.cover(some), watch.least_cover(some)), (numbers[-1], min(numbers)))
            self.assertEqual((watch.cover(list(some)), watch.least_cover(list(some))), (numbers[-1], min(numbers)))
        for _ in range(8):
            taking = tuple(chance.choice([0, 0, 1, 2, 3]) for _ in names)
            able = [can_be(net, goods, taking) for net, goods in states]
            first = able.index(False) if False in able else None
            self.assertEqual((watch.can_be(taking), watch.first_not(taking)), (able[-1], first))
            self.assertEqual((watch.can_be(list(taking)), watch.first_not(list(taking))), (able[-1], first))
        for rank in ranks(states[0][0])[:3]:
            self.assertEqual((watch.by_rank(rank), watch.by_rank(list(rank))), (by_rank(*states[-1], rank),) * 2)
        both = states[0] + states[-1]
        self.assertEqual(watch.grown(), (losers(*both), gainers(*both)))

    def test_first_and_least_are_of_all_states(self):
        watch = Watch(NET, GOODS)
        watch.do(("room", "m", 0))
        watch.do(("room", "m", 5))
        self.assertEqual((watch.cover(("y",)), watch.least_cover(("y",)), watch.first_not((0, 1)), watch.can_be((0, 1))), (3, 0, 1, True))
        self.assertEqual((watch.first_not((0, 3)), watch.first_not((0, 0)), watch.first_not((9, 0))), (0, None, 0))
        watch.back_alone(0)
        self.assertEqual((watch.least_cover(("y",)), watch.first_not((0, 1)), watch.told), (1, None, (("room", "m", 5),)))
        self.assertEqual((watch.grown(), watch.first_not((0, 2))), ((("x",), ("y",)), 0))

    def test_back_alone_as_from_the_beginning(self):
        """Of two EDITS of one line the later one stays, whichever goes."""
        watch = Watch(NET, GOODS)
        for edit in (("most", "q", 1), ("most", "q", 2), ("stand", "x", "m"), ("most", "q", 3)):
            watch.do(edit)
        watch.back_alone(3)
        self.assertEqual(watch.net[2][0][4], 2)
        watch.back_alone(0)
        self.assertEqual((watch.net[2][0][4], watch.told), (2, (("most", "q", 2), ("stand", "x", "m"))))
        watch.back_alone(0)
        self.assertEqual((watch.net[2][0][4], watch.net[3][0][1]), (5, "m"))
        watch.back()
        self.assertEqual(state(watch), (NET, GOODS, (), 0))

    def test_what_changes_nothing_counts(self):
        watch = Watch(NET, GOODS)
        watch.do(("most", "q", 5))
        watch.do(("arrive", "m", 0, 3))
        self.assertEqual(state(watch), (NET, GOODS, (("most", "q", 5), ("arrive", "m", 0, 3)), 2))
        self.assertNotEqual(watch, Watch(NET, GOODS))

    def test_forty(self):
        watch = Watch(net=NET, arrivals=GOODS)
        for number in range(40):
            watch.do(edit=("room", "m", number))
        self.assertEqual((len(watch), watch.net[1][1][1], watch.least_cover(some=("y",)), watch.first_not(taking=(0, 2))), (40, 39, 0, 0))
        for number in range(20):
            watch.back_alone(place=0)
        self.assertEqual((len(watch), watch.told[0], watch.net[1][1][1]), (20, ("room", "m", 20), 39))
        for _ in range(20):
            watch.back()
        self.assertEqual(watch, Watch(NET, GOODS))

    def test_all_edits_and_back(self):
        watch = Watch(NET, GOODS)
        for edit in EDITS:
            watch.do(edit)
        self.assertEqual(state(watch), put_all(NET, GOODS, EDITS) + (EDITS, 7))
        net, goods = put_all(NET, GOODS, EDITS)
        for edit in EDITS[::-1]:
            watch.back()
            ahead = put_all(NET, GOODS, EDITS[:len(watch)])
            net, goods = edited(net, goods, undone_by(*ahead, edit))
            self.assertEqual((watch.net, watch.arrivals), (net, goods))
        self.assertEqual((net, goods), (NET, GOODS))


class Objects(unittest.TestCase):
    def test_equal(self):
        one, other = Watch(NET, GOODS), Watch(as_lists(NET), as_lists(GOODS))
        self.assertTrue(one == other and not one != other)
        one.do(("most", "q", 1))
        self.assertTrue(one != other and not one == other)
        other.do(["most", "q", 1])
        self.assertEqual(one, other)
        for strange in (Watch(NET, ()), Watch(edited(NET, GOODS, ("most", "q", 1))[0], GOODS), Watch(BARE, ()), (NET, GOODS), None, 1, "Watch", NET):
            self.assertTrue(one != strange and not one == strange)

    def test_equal_by_what_it_has_now(self):
        """Another beginning, the same EDIT, the same now: equal; the same now by other EDITS: not."""
        one, other = Watch(NET, GOODS), Watch(edited(NET, GOODS, ("most", "q", 3))[0], GOODS)
        one.do(("most", "q", 1))
        other.do(("most", "q", 1))
        self.assertEqual(one, other)
        one.back()
        other.back()
        self.assertNotEqual(one, other)
        one.do(("most", "q", 3))
        self.assertEqual((one.net, one.arrivals), (other.net, other.arrivals))
        self.assertNotEqual(one, other)
        third = Watch(NET, ())
        third.do(("most", "q", 3))
        self.assertNotEqual(one, third)

    def test_twin(self):
        one = Watch(NET, GOODS)
        one.do(("most", "q", 1))
        one.do(("room", "m", 0))
        other = one.twin()
        self.assertTrue(one == other and one is not other)
        other.back()
        self.assertEqual((len(one), len(other), one.told), (2, 1, (("most", "q", 1), ("room", "m", 0))))
        one.back_alone(0)
        other.do(("room", "m", 9))
        self.assertEqual((one.net[1][1][1], other.net[1][1][1], one.net[2][0][4], other.net[2][0][4]), (0, 9, 5, 1))
        other.back()
        other.back()
        self.assertEqual((state(other), other.grown(), other.least_cover(("y",))), ((NET, GOODS, (), 0), ((), ()), 1))

    def test_not_iterable(self):
        watch = Watch(NET, GOODS)
        watch.do(EDITS[0])
        for call in (iter, list, tuple, sorted, lambda it: [1 for _ in it], lambda it: EDITS[0] in it):
            with self.assertRaises(TypeError):
                call(watch)

    def test_without_setters(self):
        watch = Watch(NET, GOODS)
        for name in ("net", "arrivals", "told"):
            self.assertIsInstance(vars(Watch)[name], property)
            with self.assertRaises(AttributeError):
                setattr(watch, name, ())
        self.assertEqual(state(watch), (NET, GOODS, (), 0))
        for name in "do back back_alone twin cover can_be by_rank grown first_not least_cover __len__ __eq__".split():
            self.assertIn(name, vars(Watch))

    def test_copies_what_it_is_given(self):
        net, goods, edit = as_lists(NET), as_lists(GOODS), ["hours", "x", [1, 2]]
        watch = Watch(net, goods)
        watch.do(edit)
        net[1][0][1] = 99
        net[3].clear()
        goods[0][2] = 99
        edit[2].append(7)
        edit[1] = "y"
        self.assertEqual(state(watch), put(NET, GOODS, ("hours", "x", (1, 2))) + ((("hours", "x", (1, 2)),), 1))
        watch.back()
        self.assertEqual(state(watch), (NET, GOODS, (), 0))

    def test_side_by_side(self):
        one, other = Watch(NET, GOODS), Watch(NET, GOODS)
        one.do(EDITS[0])
        self.assertEqual((len(one), len(other), bool(one), bool(other)), (1, 0, True, False))


class Edges(unittest.TestCase):
    def test_nobody(self):
        watch = Watch(BARE, ())
        self.assertEqual((watch.cover(()), watch.can_be(()), watch.by_rank(()), watch.grown(), watch.first_not(()), watch.least_cover(())), (0, True, (), ((), ()), None, 0))
        watch.do(("arrive", "a", 0, GREAT))
        watch.do(("room", "a", GREAT))
        self.assertEqual(state(watch), ((1, (("a", GREAT),), (), ()), (("a", 0, GREAT),), (("arrive", "a", 0, GREAT), ("room", "a", GREAT)), 2))

    def test_great(self):
        watch = Watch(NET, GOODS)
        watch.do(("arrive", "m", 0, GREAT))
        watch.do(("most", "r", GREAT - 1))
        self.assertEqual((watch.cover(("x",)), watch.by_rank(("y", "x")), watch.least_cover(("x", "y"))), (GREAT, (GREAT - 1, 1), 3))
        watch.do(("hours", "y", ()))
        self.assertEqual((watch.by_rank(("y", "x")), watch.grown()), ((GREAT, 0), (("y",), ("x",))))


if __name__ == "__main__":
    unittest.main()
