"""COVERS told back: TABLES judged by their sentences, READINGS against all TABLES, asking till the TABLE is known."""

import random
import unittest
from itertools import combinations, product

from helpers import STRANGE, as_lists, chance_net, check_raises, great_nets, parts, people, same

from freightrights.covers import can_be, cover
from freightrights.errors import AllKnown, BadAnswer, NothingDone
from freightrights.hidden import Asking, all_tables, allows, cover_range, covers_told, first_clash, goes_with, is_open_taking, is_readings
from freightrights.hidden import is_table, net_for, open_taking, sets_of_places, table_of, tables_with, told_of
from freightrights.nets import is_arrivals, is_net

GREAT = 10 ** 30
READINGS = (((1, 1), True), ((2, 0), False))


def sets(many):
    return parts(tuple(range(many)))


def good_table(many, row):
    """The sentences of the guarantee, one by one, of a tuple of numbers of the right length."""
    book = dict(zip(sets(many), row))
    if book[()] != 0:
        return False
    for one in book:
        for other in book:
            both, shared = tuple(sorted(set(one) | set(other))), tuple(sorted(set(one) & set(other)))
            if set(one) <= set(other) and book[one] > book[other]:
                return False
            if book[one] + book[other] < book[both] + book[shared]:
                return False
    return True


def tables(many, most):
    """All tuples of such numbers that are TABLES, by going through all of them."""
    return [row for row in product(range(most + 1), repeat=2 ** many) if row[0] == 0 and good_table(many, row)]


TABLES = {(many, most): tables(many, most) for many in (1, 2) for most in range(4)}
TABLES.update({(3, most): tables(3, most) for most in range(3)})


def fitting(many, row, taking):
    return all(sum(taking[at] for at in some) <= number for some, number in zip(sets(many), row))


def going(rows, many, readings):
    return [row for row in rows if all(fitting(many, row, taking) == answer for taking, answer in readings)]


def some_table(chance, great=False):
    """A TABLE of three places, put together of what one, two or three of them can take."""
    amounts = [chance.choice([0, 0, 1, 2, 5] + ([GREAT // 9, GREAT // 9 - 1, 10 ** 20 + 3] if great else [])) for _ in range(8)]
    row = []
    for some in sets(3):
        number = sum(amount for part, amount in zip(sets(3)[1:], amounts[:7]) if set(part) & set(some))
        row.append(number + min(2, len(some)) * amounts[7])
    return tuple(row)


def some_readings(chance, many, most, row, many_times):
    """READINGS as a TABLE answers, the last ones sometimes otherwise."""
    rows = []
    for _ in range(many_times):
        taking = tuple(chance.randint(0, most + 1) for _ in range(many))
        rows.append((taking, fitting(many, row, taking) != (chance.random() < 0.08)))
    return tuple(rows)


class Tables(unittest.TestCase):
    def test_sets(self):
        for many in range(1, 4):
            self.assertEqual(sets_of_places(many), tuple(sets(many)))
        self.assertEqual(sets_of_places(3), ((), (0,), (0, 1), (0, 1, 2), (0, 2), (1,), (1, 2), (2,)))

    def test_is_table(self):
        for many in (1, 2):
            for row in product(range(-1, 4), repeat=2 ** many):
                self.assertIs(is_table(many, row), min(row) >= 0 and good_table(many, row))
        chance = random.Random(5)
        good = 0
        for _ in range(3000):
            row = some_table(chance)
            at = chance.randrange(8)
            row = row[:at] + (max(0, row[at] + chance.choice([0, 1, -1])),) + row[at + 1:]
            good += good_table(3, row)
            self.assertIs(is_table(3, row), good_table(3, row))
            self.assertIs(is_table(3, list(row)), False)
        self.assertTrue(1000 < good < 2500)

    def test_all_tables(self):
        for (many, most), rows in TABLES.items():
            self.assertEqual(all_tables(many, most), rows)
        rows = all_tables(3, 3)
        self.assertEqual((len(rows), rows), (127, sorted({row for row in rows if good_table(3, row) and max(row) <= 3})))
        self.assertLessEqual(set(TABLES[3, 2]), set(rows))

    def test_one_sentence_broken(self):
        right = (0, 2, 3, 4, 3, 2, 3, 2)
        self.assertIs(is_table(3, right), True)
        for at, number in ((0, 1), (0, True), (0, False), (1, 4), (1, -1), (1, None), (1, 0), (2, 5), (2, 1), (3, 2), (3, 5), (4, True), (5, "2"), (7, 10 ** 5000)):
            self.assertIs(is_table(3, right[:at] + (number,) + right[at + 1:]), False, (at, number))
        self.assertIs(is_table(2, (0, 1, 1, 1)), True)
        self.assertIs(is_table(2, (0, True, 1, 1)), False)
        for thing in (right[:7], right + (2,), list(right), (), right[0], "01234567", (right,)):
            self.assertIs(is_table(3, thing), False)
        for thing in STRANGE:
            for many in (1, 2, 3):
                self.assertIs(is_table(many, thing), many == 1 and same(thing, (0, 0)))
            self.assertIs(is_table(1, (0, thing)), same(thing, 0) or same(thing, 1) or same(thing, 7) or thing in (GREAT, 10 ** 5000))
            self.assertIs(is_table(1, (thing, 9)), same(thing, 0))
        self.assertIs(is_table(3, tuple(GREAT * number for number in right)), True)

    def test_table_of(self):
        for seed in range(60):
            net, arrivals = chance_net(15000 + seed, 4, 3, 5, 3, seed % 3 == 0)
            if people(net):
                row = tuple(cover(net, arrivals, some) for some in parts(people(net)))
                self.assertEqual((table_of(net, arrivals), table_of(as_lists(net), as_lists(arrivals))), (row, row))
                self.assertIs(is_table(len(people(net)), row), True)

    def test_net_for(self):
        chance = random.Random(6)
        rows = [(many, row) for (many, _), some in TABLES.items() for row in some]
        rows += [(3, row) for row in all_tables(3, 3)[::4]]
        rows += [(3, some_table(chance, True)) for _ in range(60)] + [(1, (0, GREAT)), (2, (0, GREAT, 2 * GREAT - 1, GREAT)), (2, (0, GREAT, GREAT, 1))]
        for many, row in rows:
            net, arrivals = net_for(many, row)
            self.assertTrue(is_net(net) and is_arrivals(net, arrivals))
            self.assertEqual((len(net[3]), table_of(net, arrivals)), (many, row))
            self.assertEqual(net_for(many, list(row)), (net, arrivals))
            self.assertTrue(net[0] <= 6 and len(net[1]) <= 5 and len(net[2]) <= 8)

    def test_there_and_back_from_nets(self):
        for net, arrivals in great_nets(15100, 60, 3):
            if people(net):
                row = table_of(net, arrivals)
                self.assertEqual(table_of(*net_for(len(people(net)), row)), row)

    def test_allows(self):
        for (many, most), rows in TABLES.items():
            for row in rows[::3]:
                for taking in product(range(most + 2), repeat=many):
                    self.assertIs(allows(many, row, taking), fitting(many, row, taking))
                    self.assertIs(allows(many, list(row), list(taking)), fitting(many, row, taking))
        self.assertEqual([allows(1, (0, GREAT), (number,)) for number in (GREAT, GREAT + 1)], [True, False])

    def test_allows_as_the_net_does(self):
        for row in all_tables(3, 2)[::3]:
            net, arrivals = net_for(3, row)
            for taking in product(range(3), repeat=3):
                self.assertIs(allows(3, row, taking), can_be(net, arrivals, taking))


class Readings(unittest.TestCase):
    def test_is_readings(self):
        for thing in ((), READINGS, (((0, 0), False),), (((GREAT, 10 ** 5000), True),) * 50, (((1, 1), True),) * 3000):
            self.assertIs(is_readings(2, thing), True)
            self.assertIs(is_readings(2, list(thing)), False)
            self.assertIs(is_readings(3, thing), thing == ())
        for thing in ((((1, 1), 1),), (((1, 1), None),), (([1, 1], True),), ([(1, 1), True],), (((1,), True),), (((1, 1, 1), True),), (((1, -1), True),),
                      (((1, True), True),), (((1, 1), True, True),), (((1, 1),),), ((1, 1), True), (((1, 1), "True"),), (((1, 1), True), ((1, 1), 0))):
            self.assertIs(is_readings(2, thing), False, thing)
        for thing in STRANGE:
            self.assertIs(is_readings(1, thing), thing == ())
            self.assertIs(is_readings(1, (thing,)), False)
            self.assertIs(is_readings(1, (((1,), thing),)), thing is True or thing is False)
            self.assertIs(is_readings(1, ((thing, True),)), same(thing, (1,)))
            self.assertIs(is_readings(2, ((thing, True),)), same(thing, (1, 2)) or same(thing, (0, 0)))

    def test_against_all_tables(self):
        chance = random.Random(8)
        found = {"none": 0, "one": 0, "more": 0}
        for (many, most), rows in TABLES.items():
            for _ in range(20 if many < 3 else 4):
                readings = some_readings(chance, many, most, chance.choice(rows), chance.choice([0, 1, 2, 3, 4, 6, 12]))
                left = going(rows, many, readings)
                found["none" if not left else "one" if len(left) == 1 else "more"] += 1
                self.check_left(chance, many, most, readings, rows, left)
        self.assertTrue(min(found.values()) > 10, found)

    def check_left(self, chance, many, most, readings, rows, left):
        other = as_lists(readings)
        for row in rows[::2]:
            self.assertIs(goes_with(many, row, readings), row in left)
            self.assertIs(goes_with(many, list(row), other), row in left)
        self.assertEqual((tables_with(many, most, readings), tables_with(many, most, other)), (left, left))
        clash = [at for at in range(len(readings)) if not going(rows, many, readings[:at + 1])]
        self.assertEqual(first_clash(many, most, readings), clash[0] if clash else None)
        self.assertEqual(first_clash(many, most, other), clash[0] if clash else None)
        for some in sets(many):
            numbers = [row[sets(many).index(some)] for row in left]
            right = (min(numbers), max(numbers)) if left else None
            self.assertEqual((cover_range(many, most, readings, some), cover_range(many, most, other, list(some))), (right, right))
        opens = set()
        for taking in product(range(most + 2), repeat=many):
            answers = {fitting(many, row, taking) for row in left}
            right = answers.pop() if len(answers) == 1 else None
            opens |= {taking} if answers and right is None else set()
            self.assertIs(told_of(many, most, readings, taking), right)
            self.assertIs(told_of(many, most, other, list(taking)), right)
            self.assertIs(is_open_taking(many, most, readings, taking), taking in opens)
            self.assertIs(is_open_taking(many, most, other, taking), taking in opens)
        taking = open_taking(many, most, readings)
        self.assertEqual((taking is None, open_taking(many, most, other)), (len(left) < 2, taking))
        self.assertTrue(taking is None or taking in opens)

    def test_two_unlike_tables_part(self):
        for (many, most), rows in TABLES.items():
            for one, other in list(combinations(rows, 2))[::7]:
                self.assertTrue(any(fitting(many, one, taking) != fitting(many, other, taking) for taking in product(range(most + 1), repeat=many)))

    def test_open_things(self):
        self.assertIs(is_open_taking(2, 2, READINGS, (0, 2)), True)
        for thing in ([0, 2], (0, 2, 0), (0,), (0, True), (0, -1), (0, 3), (0, 1), (1, 1), "02", (0, None), ((0,), 2), (0, 10 ** 5000)):
            self.assertIs(is_open_taking(2, 2, READINGS, thing), False, thing)
        for thing in STRANGE:
            self.assertIs(is_open_taking(2, 2, READINGS, thing), False)
            self.assertIs(is_open_taking(2, 2, READINGS, (0, thing)), False)
            self.assertIs(is_open_taking(1, 3, (), thing), same(thing, (1,)))
            self.assertIs(is_open_taking(3, 3, (), thing), False)

    def test_when_none_goes(self):
        never = READINGS + (((1, 0), False),)
        self.assertEqual((tables_with(2, 2, never), first_clash(2, 2, never), open_taking(2, 2, never), cover_range(2, 2, never, ())), ([], 2, None, None))
        self.assertEqual((told_of(2, 2, never, (0, 0)), told_of(2, 2, never, (9, 9)), is_open_taking(2, 2, never, (0, 2))), (None, None, False))
        self.assertEqual(first_clash(1, 0, (((1,), True), ((0,), True))), 0)
        self.assertEqual((told_of(1, 3, (), (0,)), told_of(1, 3, (), (4,)), told_of(1, 3, (), (GREAT,)), told_of(1, 3, (), (3,))), (True, False, False, None))


class Told(unittest.TestCase):
    def test_all_small_tables(self):
        """It comes to the TABLE, asks nothing that is told already, and no more often than it may."""
        for many in (1, 2, 3):
            for most in range(4):
                for row in all_tables(many, most)[::7 if many == most else 1]:
                    told = []

                    def asker(taking):
                        self.assertIs(type(taking), tuple)
                        self.assertIsNone(told_of(many, most, tuple(told), taking))
                        told.append((taking, fitting(many, row, taking)))
                        return told[-1][1]

                    self.assertEqual(covers_told(many, most, asker), row)
                    self.assertLessEqual(len(told), (2 ** many - 1) * most.bit_length())
                    self.assertEqual(tables_with(many, most, tuple(told)), [row])

    def test_some_greater_tables(self):
        """Numbers to 6: no TABLE up to 6 settles what is asked ahead of its being asked."""
        rows = all_tables(3, 6)
        chance = random.Random(9)
        for row in chance.sample(rows, 25):
            left, told = rows, []

            def asker(taking):
                nonlocal left
                answer = fitting(3, row, taking)
                answers = {fitting(3, other, taking) for other in left}
                self.assertEqual(answers, {True, False})
                left = [other for other in left if fitting(3, other, taking) == answer]
                told.append(taking)
                return answer

            self.assertEqual((covers_told(3, 6, asker), left), (row, [row]))
            self.assertLessEqual(len(told), 21)

    def test_great(self):
        chance = random.Random(10)
        for at in range(60):
            row = some_table(chance, True)
            most = max(row) if at % 2 else GREAT * 3
            told = []

            def asker(taking):
                told.append(taking)
                return fitting(3, row, taking)

            self.assertEqual(covers_told(3, most, asker), row)
            self.assertLessEqual(len(told), 7 * most.bit_length())
            self.assertEqual(len(told), len(set(told)))

    def test_great_by_a_net(self):
        for net, arrivals in great_nets(15200, 40, 3):
            if people(net):
                row = table_of(net, arrivals)
                self.assertEqual(covers_told(len(people(net)), max(row), lambda taking: can_be(net, arrivals, taking)), row)
                self.assertEqual(covers_told(most=max(row) * 2, many=len(people(net)), asker=lambda taking: can_be(net, arrivals, taking)), row)

    def test_nothing_to_ask(self):
        for many in (1, 2, 3):
            self.assertEqual(covers_told(many, 0, None), (0,) * 2 ** many)

    def test_what_asker_raises(self):
        class Odd(Exception):
            pass

        def asker(*taking):
            asked.append(taking)
            if len(asked) == 3:
                raise Odd(7)
            return True

        asked = []
        with self.assertRaises(Odd) as caught:
            covers_told(2, GREAT, asker)
        self.assertEqual((caught.exception.args, len(asked), [len(row) for row in asked]), ((7,), 3, [1, 1, 1]))
        for error in (ValueError("x"), KeyError("x"), StopIteration(), AllKnown(), IndexError(), TypeError()):
            def raising(taking):
                raise error

            with self.assertRaises(type(error)) as caught:
                covers_told(1, 3, raising)
            self.assertIs(caught.exception, error)

    def test_by_position(self):
        def asker(*args, **more):
            self.assertEqual((len(args), more, type(args[0])), (1, {}, tuple))
            return sum(args[0]) <= 5

        self.assertEqual(covers_told(2, 9, asker), (0, 5, 5, 5))


class Ask(unittest.TestCase):
    def ask(self, many, most, row):
        asking = Asking(many, most)
        readings = ()
        while asking.table is None:
            taking = asking.next_taking()
            self.assertEqual((taking, asking.next_taking()), (open_taking(many, most, readings),) * 2)
            self.assertIs(is_open_taking(many, most, readings, taking), True)
            answer = fitting(many, row, taking)
            self.assertIsNone(asking.tell(answer))
            readings += ((taking, answer),)
            self.assertEqual((asking.many, asking.most, asking.asked, asking.left), (many, most, readings, len(tables_with(many, most, readings))))
        return asking

    def test_to_the_end_and_back(self):
        for (many, most), rows in TABLES.items():
            for row in rows[::4]:
                asking = self.ask(many, most, row)
                readings = asking.asked
                self.assertEqual((asking.table, asking.left), (row, 1))
                check_raises(self, AllKnown, {}, asking.next_taking)
                for answer in (True, False, 0, None):
                    check_raises(self, AllKnown, {}, asking.tell, answer)
                self.assertEqual((asking.asked, asking.table), (readings, row))
                for many_left in range(len(readings) - 1, -1, -1):
                    self.assertIsNone(asking.undo())
                    self.assertEqual((asking.asked, asking.left), (readings[:many_left], len(tables_with(many, most, readings[:many_left]))))
                    self.assertIsNone(asking.table)
                check_raises(self, NothingDone, {}, asking.undo)
                self.assertEqual(asking, Asking(many, most))

    def test_bad_answers(self):
        asking = Asking(2, 2)
        asking.tell(False)
        kept = (asking.asked, asking.left, asking.table)
        for answer in (0, 1, None, "", "True", (), 2, ("yes",), -1, (True,)):
            check_raises(self, BadAnswer, {"answer": answer}, asking.tell, answer)
            self.assertEqual((asking.asked, asking.left, asking.table), kept)
        check_raises(self, BadAnswer, {"answer": (1, (2,))}, asking.tell, [1, [2]])

    def test_equal(self):
        one, other = Asking(2, 2), Asking(many=2, most=2)
        self.assertTrue(one == other and not one != other)
        one.tell(True)
        self.assertTrue(one != other and not one == other)
        other.tell(False)
        self.assertNotEqual(one, other)
        other.undo()
        other.tell(answer=True)
        self.assertEqual(one, other)
        for strange in (Asking(2, 1), Asking(1, 2), Asking(3, 2), 2, None, (), one.asked, "Asking", (2, 2, one.asked)):
            self.assertTrue(one != strange and not one == strange)
        self.assertTrue(Asking(2, 2) != Asking(2, 3) and Asking(1, 2) != Asking(2, 2))

    def test_without_setters(self):
        asking = Asking(1, 1)
        for name in ("many", "most", "asked", "left", "table"):
            with self.assertRaises(AttributeError):
                setattr(asking, name, 1)
            self.assertIsInstance(vars(Asking)[name], property)
        self.assertEqual((asking.many, asking.most, asking.asked, asking.left, asking.table), (1, 1, (), 2, None))
        for name in ("next_taking", "tell", "undo", "__eq__"):
            self.assertIn(name, vars(Asking))

    def test_nothing_to_ask(self):
        for many in (1, 2, 3):
            asking = Asking(many, 0)
            self.assertEqual((asking.left, asking.table, asking.asked), (1, (0,) * 2 ** many, ()))
            check_raises(self, AllKnown, {}, asking.next_taking)
            check_raises(self, AllKnown, {}, asking.tell, None)
            check_raises(self, NothingDone, {}, asking.undo)

    def test_two_at_once(self):
        """Two that ask side by side have nothing in common."""
        one, other = Asking(3, 3), Asking(3, 3)
        one.tell(True)
        self.assertEqual((other.asked, other.left), ((), 127))
        one.undo()
        self.assertEqual(one, other)


if __name__ == "__main__":
    unittest.main()
