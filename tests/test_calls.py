"""How functions are called: lists for tuples, names for places, arguments unchanged, new lists, the same result again."""

import copy
import importlib
import inspect
import unittest

from helpers import as_lists
from test_interface import CLASSES, INTERFACE, listed

from freightrights.board import Board
from freightrights.hidden import Asking
from freightrights.nets import net_text
from freightrights.watches import Watch

NET = (3, (("a", 1), ("b", 0)), (("x", "a", "b", 1, 4), ("y", "a", "b", 0, 1)), (("m", "b", (1, 2)), ("n", "a", (0, 2))))
GOODS = (("a", 0, 5), ("b", 2, 1))
PLAN = ((("x", 0, 3),), (("m", 1, 2), ("n", 0, 1)))
FAR = (("a", 2), ("b", 1), ("b", 2))
NEW = (3, (("a", 1), ("b", 0)), (("x", "a", "b", 1, 1), ("y", "a", "b", 0, 3)), (("m", "b", (1, 2)), ("n", "a", (0,))))
DONE = ((("x", 0, 3),), (("n", 0, 1),))

TIED = (3, NET[1], NET[2], (("m", "b", (1, 2)), ("n", "a", (0, 1))))

READINGS = (((1, 1), True), ((2, 0), False))


def asker(taking):
    return taking[0] <= 1 and sum(taking) <= 2


WORTHS = {
    "net": NET, "arrivals": GOODS, "plan": PLAN, "far": FAR, "yard": "a", "line": "x", "customer": "m", "hour": 1,
    "customers": ("m", "n"), "room": 3, "most": 2, "start": "b", "goal": "a", "late": 1, "hours": (0, 2), "names": ("b", "a"),
    "numbers": (3, 0), "some": ("m",), "taking": (2, 1), "wishes": (3, 1), "rank": ("n", "m"), "one": ("m",), "other": ("n",),
    "name": "n", "later": (("a", 0, 4),), "sets": ((), ("n",), ("m", "n")),
    "trade": ("n", "m", 1), "giver": "n", "taker": "m", "prices": (2, -1), "row": ("n", "m", "m", "n", "m"), "place": 1, "level": 1,
    "classes": (("n",), (), ("m",)), "told": (4, 2), "number": 2, "done": DONE, "real": (("a", 0, 5), ("b", 2, 2)), "when": 2,
    "site": ("line", "x"), "sites": (("line", "x"), ("yard", "b")), "cut": FAR, "yards": ("a",),
    "many": 2, "table": (0, 3, 3, 2), "readings": READINGS, "asker": asker, "edit": ("arrive", "a", 1, 2),
    "new": NEW, "coming": (("a", 0, 4), ("b", 2, 1)),
}
SPECIAL = {
    ("with_line", "line"): "z", ("with_customer", "customer"): "o", ("lost_between", "one"): FAR, ("lost_between", "other"): (("a", 0),),
    ("can_give", "one"): "m", ("can_give", "other"): "n", ("same_covers", "other"): NET,
    ("lead_alike", "one"): ("m", "n"), ("lead_alike", "other"): ("n", "m"), ("pushed", "one"): "m", ("pushed", "other"): "n",
    ("pushing_rank", "one"): "m", ("pushing_rank", "other"): "n", ("parting_net", "one"): ("m", "n"), ("parting_net", "other"): ("n", "m"),
    ("can_take_from", "other"): "m", ("rivalry", "other"): "m", ("is_rivalry", "other"): "m", ("rivalry", "wishes"): (4, 3),
    ("is_rivalry", "wishes"): (4, 3), ("unit_move", "taking"): (6, 0), ("unit_move", "wishes"): (9, 9), ("is_least", "taking"): (3, 3),
    ("is_least", "wishes"): (9, 9), ("known_arrivals", "told"): (("a", 0, 4), ("b", 2, 1)), ("day_by_day", "told"): GOODS,
    ("can_go_on", "taking"): (4, 2), ("plan_on", "taking"): (4, 2), ("is_outcome", "taking"): (3, 2), ("order_to", "taking"): (3, 2),
    ("weights_against", "taking"): (3, 2), ("is_corner", "taking"): (1, 5), ("rank_to", "taking"): (1, 5),
    ("how_many_ranks", "taking"): (1, 5), ("is_losing_rank", "coming"): GOODS,
    ("gone_by_turns", "sites"): (("yard", "b"), ("line", "x")), ("late_ones", "wishes"): (9, 9), ("narrow_without", "wishes"): (9, 9),
    ("is_narrow_without", "wishes"): (9, 9), ("breaking", "taking"): (5, 1), ("is_breaking", "taking"): (5, 1),
    **{(name, part): worth for name in ("tie", "is_tie", "two_arrivals", "are_two_arrivals", "tied", "in_time") for part, worth in
       (("net", TIED), ("customer", "n"), ("rank", ("m", "n")), ("yards", ("a", "b")))},
    ("cover_range", "some"): (1,), ("do_commute", "one"): ("hours", "m", (0, 2)), ("do_commute", "other"): ("stand", "n", "b"),
    ("answers", "text"): "net one " + net_text(NET) + "\nnames\narrive one a 0 5\nrank one n m\nundo\nundo\nundo", ("told_of", "taking"): (1, 0),
    ("net_from", "text"): "hours 2; yard a 1; yard b 0; line x a b 1 2; customer m b 0 1; customer n a",
    **{(name, part): worth for name in ("units_between", "trade_row", "is_trade_row") for part, worth in (("one", (6, 0)), ("other", (1, 2)))},
    **{(name, part): worth for name in ("over", "telling_level") for part, worth in (("one", (6, 0)), ("other", (3, 3)))},
    ("names_from", "text"): "b a", ("numbers_from", "text"): "3 0", ("arrivals_from", "text"): "a 0 3; b 1 2",
}
THINGS = {
    "is_net": NET, "is_arrivals": GOODS, "is_taking": (1, 2), "is_plan": PLAN, "is_plan_for": PLAN,
    "is_leaner": ((("x", 0, 2),), PLAN[1]), "is_cut": FAR, "is_narrowest": (("a", 1), ("a", 2), ("b", 1), ("b", 2)),
    "is_cover_plan": ((("x", 0, 4), ("y", 2, 1)), (("m", 1, 4), ("m", 2, 2))), "is_full_chain": ((),),
    "is_full_paper": (), "is_loose_paper": ((("x", 0, 3),), (("m", 1, 3),)),
    "is_trade": ("n", "m", 1), "is_trade_row": (("m", "", 3), ("m", "n", 2)), "is_rivalry": (("m", "m", "m", "n", "n", "n", "m"), 5),
    "is_narrow_without": (("m", "n"), (("a", 0), ("a", 1), ("a", 2), ("b", 0), ("b", 1), ("b", 2))), "is_weather": (("a", 0, 3), ("b", 2, 1)),
    "is_dry_weather": (("a", 0, 4),), "is_breaking": ((("a", 0, 3), ("b", 2, 1)), ("m",)), "is_worst_weather": (("a", 0, 5),),
    "is_tie": ("n", ("a", 0), "m", ("a", 2)), "are_two_arrivals": ((1, 1), (("a", 0, 1),), (("a", 0, 1), ("b", 2, 1))),
    "is_table": (0, 2, 3, 2), "is_readings": READINGS, "is_open_taking": (0, 2), "is_edit": ("most", "x", 1),
    "is_next_hour": ((), (("m", 1, 3),)), "is_losing_rank": ("m", "n"),
}

LISTED = ("answers", "all_tables", "tables_with", "ranks_in_time", "narrowest_cuts", "all_takings", "full_sets", "trades_from", "all_least")
TRUTHS = """can_be is_whole are_apart same_covers can_give always_full both_full is_best is_corner lead_alike is_outcome is_least can_take_from
    can_go_on never_harms is_full can_go surely_can_be in_time all_in_time always_in_time
    allows goes_with told_of do_commute""".split()


def calls():
    """For each function of the interface its name, itself, and its arguments by name."""
    for place, text in INTERFACE.items():
        module = importlib.import_module("freightrights." + place)
        for name, parameters in listed(text):
            told = {}
            for parameter in parameters:
                if parameter == "thing":
                    told[parameter] = THINGS[name]
                else:
                    told[parameter] = SPECIAL.get((name, parameter), WORTHS.get(parameter))
            if name == "is_full_paper":
                told["some"] = ()
            yield name, getattr(module, name), told


def in_lists(told, half=False):
    """The arguments with lists for tuples; things stay what they are. Half: only inside of tuples."""
    found = {}
    for key, worth in told.items():
        if key == "thing" or not isinstance(worth, tuple):
            found[key] = worth
        else:
            found[key] = tuple(as_lists(part) for part in worth) if half else as_lists(worth)
    return found


def has_list(answer):
    if isinstance(answer, list):
        return True
    return isinstance(answer, tuple) and any(has_list(part) for part in answer)


class Calls(unittest.TestCase):
    def test_by_place_and_by_name(self):
        for name, call, told in calls():
            with self.subTest(name=name):
                answer = call(*told.values())
                self.assertEqual(list(inspect.signature(call).parameters), list(told))
                self.assertEqual(repr(call(**told)), repr(answer))
                self.assertEqual(repr(call(**dict(reversed(list(told.items()))))), repr(answer))
                if "thing" in told:
                    self.assertIs(answer, True)

    def test_lists_for_tuples(self):
        for name, call, told in calls():
            with self.subTest(name=name):
                answer = call(**told)
                for other in (in_lists(told), in_lists(told, True)):
                    self.assertEqual(repr(call(**other)), repr(answer))

    def test_arguments_unchanged(self):
        for name, call, told in calls():
            for other in (told, in_lists(told), in_lists(told, True)):
                kept = copy.deepcopy(other)
                call(**other)
                self.assertEqual(repr(other), repr(kept), name)

    def test_the_same_again(self):
        for name, call, told in calls():
            first = call(**told)
            for _, other, rest in list(calls())[::9]:
                other(**rest)
            self.assertEqual(repr(call(**told)), repr(first), name)

    def test_lists_are_answered_where_they_are_told(self):
        for name, call, told in calls():
            answer = call(**told)
            if name in LISTED:
                self.assertIsInstance(answer, list)
                kept = list(answer)
                answer.append("more")
                self.assertEqual(call(**told), kept)
                answer = tuple(kept)
            self.assertFalse(has_list(answer), name)

    def test_answers_do_not_hang_together(self):
        for name, call, told in calls():
            other = in_lists(told)
            answer = call(**other)
            kept = repr(answer)
            for worth in other.values():
                if isinstance(worth, list):
                    worth.clear()
            self.assertEqual(repr(answer), kept, name)

    def test_truths_are_truths(self):
        for name, call, told in calls():
            if "thing" in told or name in TRUTHS:
                self.assertIsInstance(call(**told), bool, name)
                if "thing" in told:
                    self.assertIs(call(**dict(told, thing=as_lists(told["thing"]))), False, name)


def asking():
    made = Asking(2, 2)
    made.tell(True)
    return made


def watch():
    made = Watch(NET, GOODS)
    made.do(("most", "x", 2))
    made.do(("arrive", "b", 1, 2))
    return made


def board():
    made = Board()
    made.put("one", NET, GOODS)
    made.put("two", NEW, GOODS)
    return made


MADE = {"Asking": asking, "Watch": watch, "Board": board}
TOLD = {
    "Asking": {"answer": False}, "Watch": {"edit": ("hours", "m", (0, 1)), "place": 0, "some": ("m",), "taking": (9, 0), "rank": ("n", "m")},
    "Board": {"name": "one", "new": "new", "net": NET, "arrivals": GOODS, "edit": ("hours", "m", (0, 1)), "pairs": (("m", 2), ("n", 1))},
}


def seen(made):
    """All that is to be seen of an object by its properties."""
    found = [getattr(made, name) for name in vars(type(made)) if isinstance(vars(type(made))[name], property)]
    if isinstance(made, Board):
        found += [(name, made[name]) for name in made.names]
    return found


class Methods(unittest.TestCase):
    def methods(self):
        """For each method of the interface the class, the name, and arguments by name."""
        for (_, word), (_, _, methods) in CLASSES.items():
            for name, parameters in listed(methods):
                told = {part: TOLD[word][part] for part in parameters if part and not name.startswith("__")}
                if name == "put":
                    told["name"] = "new"
                if not name.startswith("__"):
                    yield word, name, told

    def answer(self, word, name, told, by_name=True):
        """What a method returns, and what is to be seen of its object then."""
        made = MADE[word]()
        call = getattr(made, name)
        answer = call(**told) if by_name else call(*told.values())
        return (seen(answer) if name == "twin" else answer), seen(made)

    def test_by_place_by_name_with_lists(self):
        many = 0
        for word, name, told in self.methods():
            with self.subTest(word=word, name=name):
                right = repr(self.answer(word, name, told))
                for other in (told, in_lists(told), in_lists(told, True)):
                    kept = repr(other)
                    self.assertEqual(repr(self.answer(word, name, other)), right)
                    self.assertEqual(repr(self.answer(word, name, other, False)), right)
                    self.assertEqual(repr(other), kept)
                many += 1
        self.assertEqual(many, 3 + 10 + 10)

    def test_deeds_return_nothing(self):
        for word, name, told in self.methods():
            changes = name in ("tell", "undo", "do", "back", "back_alone", "put", "drop", "rename", "edit")
            made = MADE[word]()
            answer = getattr(made, name)(**told)
            self.assertEqual((answer is None, made == MADE[word]()), (changes, not changes), (word, name))
            self.assertFalse(has_list(answer))

    def test_built_by_place_by_name_with_lists(self):
        self.assertEqual(Asking(2, 3), Asking(most=3, many=2))
        self.assertEqual(Watch(NET, GOODS), Watch(arrivals=as_lists(GOODS), net=as_lists(NET)))
        self.assertEqual(repr(seen(Watch(NET, GOODS))), repr(seen(Watch(as_lists(NET), as_lists(GOODS)))))

    def test_arguments_may_change_later(self):
        for word, name, told in self.methods():
            made, other = MADE[word](), in_lists(told)
            getattr(made, name)(**other)
            kept = repr(seen(made))
            for worth in other.values():
                if isinstance(worth, list):
                    worth.clear()
            self.assertEqual(repr(seen(made)), kept)

    def test_the_same_again(self):
        for word, name, told in self.methods():
            made = MADE[word]()
            if name in ("next_taking", "cover", "can_be", "by_rank", "grown", "first_not", "least_cover", "with_customer", "where_can", "alike", "at_least"):
                self.assertEqual(repr(getattr(made, name)(**told)), repr(getattr(made, name)(**told)))
            self.assertEqual(repr(seen(made)), repr(seen(made)))

    def test_no_lists_are_seen(self):
        for word in MADE:
            self.assertFalse(has_list(tuple(seen(MADE[word]()))))


if __name__ == "__main__":
    unittest.main()
