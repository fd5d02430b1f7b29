"""Boards: deeds done and undone against plain dicts, what is asked of all NETS on it."""

import random
import unittest

from helpers import as_lists, chance_net, check_raises, people
from test_watches import BARE, EDITS, GOODS, GREAT, NET, edit_by_chance, put

from freightrights.board import Board
from freightrights.covers import can_be, covers
from freightrights.errors import Known, NoCustomer, NoLine, NoNet, NoNumber, NothingDone, NoYard
from freightrights.nets import with_customer
from freightrights.watches import edited

NAMES = ("day", "far", "more", "near", "x", "zz")
FAR = (2, (("m", 3),), (), (("x", "m", (1,)),))


def look(board, names=NAMES):
    """All that is to be seen of a Board."""
    pairs = {name: board[name] for name in names if name in board}
    return board.names, board.deeds, len(board), pairs


def full_board():
    board = Board()
    board.put("day", NET, GOODS)
    board.put("more", NET, (("m", 0, 4),))
    board.put("far", FAR, GOODS)
    return board


def boards(seed, many):
    """Boards of several NETS, some with the same customers, with the dict of what is on them."""
    for at in range(seed, seed + many):
        chance = random.Random(at)
        board, nets = Board(), {}
        first = chance_net(at, 3, 3, 4, 3)
        for name in chance.sample(NAMES, chance.randint(0, 6)):
            pair = chance.choice([first, first, chance_net(at + 7, 3, 3, 4, 3), (BARE, ())])
            for _ in range(chance.choice([0, 1, 1, 2])):
                pair = put(*pair, edit_by_chance(chance, pair[0]))
            nets[name] = pair
            board.put(name, *pair)
        yield chance, board, nets


class Deeds(unittest.TestCase):
    def test_by_chance(self):
        """Each deed against a list of dicts; undone one by one till nothing is left."""
        refused, done = 0, 0
        for seed in range(40):
            chance = random.Random(seed)
            board, past = Board(), [{}]
            for _ in range(60):
                now = past[-1]
                deed = chance.choice(["put", "put", "drop", "rename", "edit", "edit", "undo"])
                name, new = chance.choice(NAMES[:4]), chance.choice(NAMES[:5])
                new_now, error = dict(now), None
                if deed == "put":
                    pair = chance_net(17000 + seed, 3, 3, 3, 3)
                    error = (Known, {"name": name}) if name in now else None
                    call, told = board.put, (name,) + pair
                    new_now[name] = pair
                elif deed == "undo":
                    error = (NothingDone, {}) if len(past) == 1 else None
                    call, told = board.undo, ()
                elif name not in now:
                    error = (NoNet, {"name": name})
                    call, told = {"drop": (board.drop, (name,)), "rename": (board.rename, (name, new)), "edit": (board.edit, (name, ("most", "?", 1)))}[deed]
                elif deed == "drop":
                    call, told = board.drop, (name,)
                    del new_now[name]
                elif deed == "rename":
                    error = (Known, {"name": new}) if new in now else None
                    call, told = board.rename, (name, new)
                    new_now[new] = new_now.pop(name)
                else:
                    edit = edit_by_chance(chance, now[name][0])
                    call, told = board.edit, (name, edit)
                    new_now[name] = put(*now[name], edit)
                if error:
                    refused += 1
                    check_raises(self, *error, call, *told)
                else:
                    done += 1
                    self.assertIsNone(call(*chance.choice([told, as_lists(told)])))
                    past = past[:-1] if deed == "undo" else past + [new_now]
                self.assertEqual(look(board), (tuple(sorted(past[-1])), len(past) - 1, len(past[-1]), past[-1]))
            while len(past) > 1:
                past.pop()
                self.assertIsNone(board.undo())
                self.assertEqual(look(board), (tuple(sorted(past[-1])), len(past) - 1, len(past[-1]), past[-1]))
            check_raises(self, NothingDone, {}, board.undo)
            self.assertEqual(board, Board())
        self.assertTrue(refused > 300 and done > 1000, (refused, done))

    def test_errors_in_order(self):
        board = full_board()
        kept = look(board)
        for name in ("day", "more", "far"):
            check_raises(self, Known, {"name": name}, board.put, name, NET, ())
            for new in ("day", "more", "far"):
                check_raises(self, Known, {"name": new}, board.rename, name, new)
        for name in ("z", "", "Day", "d", "day "):
            check_raises(self, NoNet, {"name": name}, board.drop, name)
            check_raises(self, NoNet, {"name": name}, board.at_least, name)
            check_raises(self, NoNet, {"name": name}, board.__getitem__, name)
            for new in ("day", "new"):
                check_raises(self, NoNet, {"name": name}, board.rename, name, new)
            check_raises(self, NoNet, {"name": name}, board.edit, name, ("most", "z", 1))
        for edit, error, kept_of in ((("most", "z", 1), NoLine, {"name": "z"}), (("room", "z", 1), NoYard, {"name": "z"}), (("stand", "z", "w"), NoCustomer, {"name": "z"}),
                                     (("stand", "x", "w"), NoYard, {"name": "w"}), (("hours", "x", (0, 3)), NoNumber, {"number": 3}), (("arrive", "m", 5, 1), NoNumber, {"number": 5})):
            check_raises(self, error, kept_of, board.edit, "day", edit)
        self.assertEqual(look(board), kept)

    def test_undo_deed_by_deed(self):
        board = full_board()
        states = [look(board)]
        deeds = [lambda: board.edit("day", ("room", "m", 7)), lambda: board.rename("day", "near"), lambda: board.drop("more"), lambda: board.put("day", FAR, ()),
                 lambda: board.edit("near", ("arrive", "m", 0, 0))]
        for deed in deeds:
            self.assertIsNone(deed())
            states.append(look(board))
        self.assertEqual([row[1] for row in states], [3, 4, 5, 6, 7, 8])
        for row in states[-2::-1]:
            board.undo()
            self.assertEqual(look(board), row)
        board.drop("far")
        board.undo()
        self.assertEqual(look(board), states[0])

    def test_an_undo_is_no_deed(self):
        board = Board()
        board.put("a", NET, GOODS)
        board.put("b", NET, GOODS)
        board.undo()
        board.undo()
        self.assertEqual((board.names, board.deeds), ((), 0))
        check_raises(self, NothingDone, {}, board.undo)
        board.put("b", NET, GOODS)
        self.assertEqual((board.names, board.deeds), (("b",), 1))

    def test_an_edit_that_changes_nothing_is_a_deed(self):
        board = full_board()
        board.edit("day", ("most", "q", 5))
        self.assertEqual((board.deeds, board["day"]), (4, (NET, GOODS)))
        board.undo()
        self.assertEqual(board.deeds, 3)

    def test_sixty(self):
        board = Board()
        for at in range(8):
            board.put(NAMES[0][:1] + "abcdefgh"[at], NET, GOODS)
        for at in range(52):
            board.edit("da", ("arrive", "m", 1, at))
        self.assertEqual((len(board), board.deeds, board["da"][1]), (8, 60, (("m", 0, 3), ("m", 1, 51))))
        for _ in range(60):
            board.undo()
        self.assertEqual((len(board), board.deeds), (0, 0))


class Objects(unittest.TestCase):
    def test_in_and_brackets(self):
        board = full_board()
        for name in NAMES + ("", "Day", "customer"):
            self.assertIs(name in board, name in ("day", "more", "far"))
            self.assertIs(name not in board, name not in ("day", "more", "far"))
        self.assertEqual((board["day"], board["far"]), ((NET, GOODS), (FAR, GOODS)))
        with self.assertRaises(NoNet):
            board["near"]

    def test_not_iterable(self):
        for board in (Board(), full_board()):
            for call in (iter, list, tuple, sorted, lambda it: [1 for _ in it], lambda it: dict(it), lambda it: [*it]):
                with self.assertRaises(TypeError):
                    call(board)

    def test_without_setters(self):
        board = full_board()
        for name in ("names", "deeds"):
            self.assertIsInstance(vars(Board)[name], property)
            with self.assertRaises(AttributeError):
                setattr(board, name, ())
        for name in "put drop rename edit undo twin with_customer where_can alike at_least __len__ __contains__ __getitem__ __eq__".split():
            self.assertIn(name, vars(Board))

    def test_equal(self):
        one, other = full_board(), Board()
        for name in ("far", "more", "day"):
            other.put(name, *as_lists(one[name]))
        self.assertTrue(one == other and not one != other)
        other.drop("far")
        self.assertTrue(one != other and not one == other)
        other.undo()
        other.edit("day", ("most", "q", 4))
        self.assertNotEqual(one, other)
        other.edit("day", ("most", "q", 5))
        self.assertTrue(one == other and one.deeds != other.deeds)
        other.rename("day", "near")
        self.assertNotEqual(one, other)
        for strange in (Board(), None, 1, {}, (), one.names, "Board", {name: one[name] for name in one.names}):
            self.assertTrue(one != strange and not one == strange)
        self.assertEqual(Board(), Board())

    def test_twin(self):
        one = full_board()
        other = one.twin()
        self.assertTrue(one == other and one is not other)
        self.assertEqual((one.deeds, other.deeds), (3, 0))
        check_raises(self, NothingDone, {}, other.undo)
        other.edit("day", ("most", "q", 0))
        one.drop("far")
        self.assertEqual((one.names, other.names, one["day"], other["day"][0][2][0][4]), (("day", "more"), ("day", "far", "more"), (NET, GOODS), 0))
        one.undo()
        other.undo()
        self.assertEqual(one, other)

    def test_copies_what_it_is_given(self):
        net, goods, edit = as_lists(NET), as_lists(GOODS), ["hours", "x", [1, 2]]
        board = Board()
        board.put("day", net, goods)
        board.edit("day", edit)
        net[1][0][1] = 99
        net[3].clear()
        goods.append(["m", 2, 1])
        edit[2].append(0)
        self.assertEqual(board["day"], put(NET, GOODS, ("hours", "x", (1, 2))))
        board.undo()
        self.assertEqual(board["day"], (NET, GOODS))

    def test_by_names(self):
        board = Board()
        board.put(name="a", net=NET, arrivals=GOODS)
        board.rename(name="a", new="b")
        board.edit(name="b", edit=EDITS[0])
        self.assertEqual((board.with_customer(name="x"), board.where_can(pairs=(("x", 1),)), board.at_least(name="b")), (("b",), ("b",), ()))
        board.drop(name="b")
        self.assertEqual(board.names, ())


class Asked(unittest.TestCase):
    def test_with_customer(self):
        for chance, board, nets in boards(17200, 60):
            for name in ("ax", "bx", "cx", "x", "", "day"):
                self.assertEqual(board.with_customer(name), tuple(sorted(key for key in nets if name in people(nets[key][0]))))

    def test_where_can(self):
        found = {True: 0, False: 0}
        for chance, board, nets in boards(17300, 90):
            for _ in range(12):
                names = [name for name in ("ax", "bx", "cx", "zz") if chance.random() < (0.5 if name != "zz" else 0.1)]
                pairs = tuple((name, chance.choice([0, 0, 1, 1, 2, 3, GREAT])) for name in names)
                right = []
                for key, (net, goods) in nets.items():
                    taking = tuple(dict(pairs).get(name, 0) for name in people(net))
                    able = set(names) <= set(people(net)) and can_be(net, goods, taking)
                    found[able] += 1
                    right += [key] if able else []
                self.assertEqual(board.where_can(pairs), tuple(sorted(right)))
                self.assertEqual(board.where_can(as_lists(pairs)), tuple(sorted(right)))
        self.assertTrue(min(found.values()) > 200, found)

    def test_with_nothing_wanted(self):
        board = full_board()
        self.assertEqual((board.where_can(()), board.where_can((("y", 0),)), board.where_can((("x", 0), ("y", 0)))), (("day", "far", "more"), ("day", "more"), ("day", "more")))
        self.assertEqual((board.where_can((("z", 0),)), board.where_can((("x", 0),)), board.where_can((("x", GREAT),))), ((), ("day", "far", "more"), ()))

    def test_alike(self):
        great = 0
        for chance, board, nets in boards(17400, 90):
            groups = {}
            for key in sorted(nets):
                groups.setdefault(repr((people(nets[key][0]), covers(*nets[key]))), []).append(key)
            great += len(groups) < len(nets)
            self.assertEqual(board.alike(), tuple(sorted(tuple(row) for row in groups.values())))
        self.assertGreater(great, 40)

    def test_at_least(self):
        found = {0: 0, 1: 0, 2: 0}
        for chance, board, nets in boards(17500, 90):
            for name in nets:
                own = dict(covers(*nets[name]))
                right = []
                for key in nets:
                    there = dict(covers(*nets[key]))
                    if key != name and people(nets[key][0]) == people(nets[name][0]) and all(there[some] >= own[some] for some in own):
                        right.append(key)
                found[min(len(right), 2)] += 1
                self.assertEqual(board.at_least(name), tuple(sorted(right)))
        self.assertTrue(min(found.values()) > 20, found)

    def test_other_customers(self):
        board = full_board()
        more = with_customer(NET, "z", "d", ())
        board.put("near", more, (("m", 0, GREAT),))
        self.assertEqual((board.alike(), board.at_least("day"), board.at_least("near")), ((("day",), ("far",), ("more",), ("near",)), ("more",), ()))
        board.put("x", more, (("m", 0, GREAT), ("m", 1, GREAT)))
        self.assertEqual((board.at_least("near"), board.at_least("x"), board.at_least("far"), board.with_customer("z")), (("x",), (), (), ("near", "x")))
        board.put("zz", edited(NET, GOODS, ("room", "d", 5))[0], GOODS)
        self.assertEqual((board.alike()[0], board.at_least("zz"), board.at_least("day")), (("day", "zz"), ("day", "more"), ("more", "zz")))

    def test_empty(self):
        board = Board()
        self.assertEqual((board.names, board.deeds, len(board), board.with_customer("x"), board.where_can(()), board.alike()), ((), 0, 0, (), (), ()))
        for name in ("a", "", "x"):
            check_raises(self, NoNet, {"name": name}, board.at_least, name)
            check_raises(self, NoNet, {"name": name}, board.drop, name)
        check_raises(self, NothingDone, {}, board.undo)
        self.assertEqual(board.twin(), board)

    def test_nobody(self):
        board = Board()
        board.put("a", BARE, ())
        board.put("b", BARE, (("a", 0, GREAT),))
        self.assertEqual((board.alike(), board.at_least("a"), board.where_can(()), board.where_can((("x", 0),))), ((("a", "b"),), ("b",), ("a", "b"), ()))


if __name__ == "__main__":
    unittest.main()
