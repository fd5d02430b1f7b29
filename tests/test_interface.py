"""The names of the interface: where they are defined, with which parameters; the error classes."""

import ast
import importlib
import inspect
import os
import unittest

from freightrights import errors

ROOT = os.path.dirname(os.path.dirname(os.path.abspath(__file__)))

ERRORS = {
    "AllKnown": (), "BadAnswer": ("answer",), "BadLine": ("number",), "BadText": ("piece",), "CanNot": (),
    "Known": ("name",), "NoCustomer": ("name",), "NoLine": ("name",), "NoNet": ("name",), "NoNumber": ("number",),
    "NoYard": ("name",), "NotNet": (), "NothingDone": (), "OtherCustomers": (),
}

INTERFACE = {
    "nets": """is_net(thing), is_arrivals(net, thing), is_taking(net, thing), yard_names(net), line_names(net),
        customer_names(net), room_of(net, yard), line_of(net, line), place_of(net, customer), spots(net),
        spots_of(net, customers), reached_spots(net, yard, hour), customers_reached(net, yard, hour),
        arrives(arrivals, yard, hour), with_room(net, yard, room), with_most(net, line, most),
        with_line(net, line, start, goal, late, most), without_line(net, line),
        with_customer(net, customer, yard, hours), without_customer(net, customer), net_text(net), net_from(text)""",
    "texts": """names_text(names), numbers_text(numbers), arrivals_text(arrivals), names_from(text), numbers_from(text),
        arrivals_from(text)""",
    "plans": """is_plan(net, arrivals, thing), taking_of(net, plan), there(net, arrivals, plan, yard, hour),
        left(net, arrivals, plan, yard, hour), lying(net, arrivals, plan), given_back(net, arrivals, plan),
        plan_for(net, arrivals, taking), is_plan_for(net, arrivals, taking, thing),
        to_spare(net, arrivals, plan, yard, hour), idle_moves(net, arrivals, plan), leaner(net, arrivals, plan),
        is_leaner(net, arrivals, plan, thing)""",
    "cuts": """is_cut(net, some, thing), cut_pieces(net, arrivals, far), cut_value(net, arrivals, far),
        least_cut(net, arrivals, some), widest_cut(net, arrivals, some), is_narrowest(net, arrivals, some, thing),
        narrowest_cuts(net, arrivals, some), how_many_narrowest(net, arrivals, some),
        felt_pieces(net, arrivals, some), wanted_pieces(net, arrivals, some), chain_of_cuts(net, arrivals, rank),
        lost_between(net, one, other)""",
    "covers": """cover(net, arrivals, some), covers(net, arrivals), whole(net, arrivals),
        gain(net, arrivals, some, name), can_be(net, arrivals, taking), room_beside(net, arrivals, taking, name),
        over_set(net, arrivals, taking), is_whole(net, arrivals, taking), cover_plan(net, arrivals, some),
        is_cover_plan(net, arrivals, some, thing), wished_cover(net, arrivals, wishes, some),
        wished_covers(net, arrivals, wishes), are_apart(net, arrivals, one, other),
        same_covers(net, arrivals, other, later), all_takings(net, arrivals), how_many_takings(net, arrivals)""",
    "fulls": """is_full(net, arrivals, taking, some), full_sets(net, arrivals, taking),
        how_many_full(net, arrivals, taking), greatest_full(net, arrivals, taking),
        least_full(net, arrivals, taking, customer), can_get(net, arrivals, taking),
        givers(net, arrivals, taking, customer), getters(net, arrivals, taking, customer),
        can_give(net, arrivals, taking, one, other), knots(net, arrivals, taking), full_chain(net, arrivals, taking),
        is_full_chain(net, arrivals, taking, thing), full_paper(net, arrivals, taking, some),
        is_full_paper(net, arrivals, taking, some, thing), loose_paper(net, arrivals, taking, some),
        is_loose_paper(net, arrivals, taking, some, thing), always_full(net, arrivals, some),
        both_full(net, arrivals, one, other), chain_taking(net, arrivals, sets)""",
    "trades": """is_trade(net, arrivals, taking, thing), behind_trade(net, arrivals, taking, trade),
        trade_most(net, arrivals, taking, giver, taker), trades_from(net, arrivals, taking),
        units_between(net, arrivals, one, other), trade_row(net, arrivals, one, other),
        is_trade_row(net, arrivals, one, other, thing), better_trade(net, arrivals, taking, prices),
        is_best(net, arrivals, taking, prices), best_chain(net, arrivals, taking, prices),
        always_trades(net, arrivals), lots_apart(net, arrivals)""",
    "rights": """by_rank(net, arrivals, rank), by_rank_wished(net, arrivals, wishes, rank),
        weights_against(net, arrivals, rank, taking), how_many_ranks(net, arrivals, taking),
        is_corner(net, arrivals, taking), rank_to(net, arrivals, taking), corners(net, arrivals),
        lead_alike(net, arrivals, one, other), idle_places(net, arrivals, rank), sure_share(net, arrivals, name),
        most_share(net, arrivals, name), sure_share_at(net, arrivals, name, place),
        worst_rank_at(net, arrivals, name, place), pushed(net, arrivals, one, other),
        pushing_rank(net, arrivals, one, other)""",
    "rows": """answers_to(net, arrivals, row), row_serves(net, arrivals, row), row_for(net, arrivals, taking),
        gets_instead(net, arrivals, row, place), gives_way(net, arrivals, row, place, name),
        is_outcome(net, arrivals, row, taking), order_to(net, arrivals, row, taking), outcomes(net, arrivals, row),
        idle_asks(net, arrivals, row), parting_net(one, other)""",
    "spreads": """over(one, level), telling_level(one, other), is_least(net, arrivals, wishes, taking),
        unit_move(net, arrivals, wishes, taking), least_spread(net, arrivals, wishes, rank),
        class_spread(net, arrivals, wishes, classes), all_least(net, arrivals, wishes), ladder(net, arrivals, wishes)""",
    "wishes": """use_of(wishes, taking), share_if(net, arrivals, wishes, classes, name, number),
        ceiling(net, arrivals, wishes, classes, name), wish_more(net, arrivals, wishes, classes, name),
        harm_by(net, arrivals, wishes, classes, name), uses_if(net, arrivals, wishes, told, classes),
        better_by(net, arrivals, wishes, told, classes), worse_by(net, arrivals, wishes, told, classes),
        least_got(net, arrivals, wishes, name), most_got(net, arrivals, wishes, name),
        always_served(net, arrivals, wishes), rival_parts(net, arrivals, wishes),
        can_take_from(net, arrivals, wishes, name, other), rivalry(net, arrivals, wishes, name, other),
        is_rivalry(net, arrivals, wishes, name, other, thing)""",
    "promises": """known_arrivals(real, told, hour), left_net(net, hour), left_arrivals(net, arrivals, done, hour),
        promised(net, arrivals, done, hour, wishes, classes), can_go_on(net, arrivals, done, hour, taking),
        plan_on(net, arrivals, done, hour, taking), next_hour(net, arrivals, done, hour, wishes, classes),
        is_next_hour(net, arrivals, done, hour, wishes, classes, thing),
        raised_by(net, arrivals, done, hour, wishes, classes, yard, when), missed(net, arrivals, done, hour, some),
        day_by_day(net, real, told, wishes, classes)""",
    "works": """growth(net, arrivals, new, coming, some), all_growths(net, arrivals, new, coming),
        falling(net, arrivals, new, coming), never_harms(net, arrivals, new, coming),
        losers(net, arrivals, new, coming), gainers(net, arrivals, new, coming),
        most_lost(net, arrivals, new, coming, customer), losing_rank(net, arrivals, new, coming, customer),
        is_losing_rank(net, arrivals, new, coming, customer, thing), lost_units(net, arrivals, new, coming, row),
        growing_spots(net, arrivals, some), helped(net, arrivals, yard, hour)""",
    "betters": """site_most(net, site), with_site(net, site, number), uses_of(net, site, cut), need_alone(net, arrivals,
        wishes, site), narrow_without(net, arrivals, wishes, site), is_narrow_without(net, arrivals, wishes, site,
        thing), helpers_alone(net, arrivals, wishes), least_kept(net, arrivals, site), idle_by(net, arrivals, site),
        idle_sites(net, arrivals), can_go(net, arrivals, sites), who_feels(net, arrivals, sites), gone_by_turns(net,
        arrivals, sites), most_gone(net, arrivals, sites)""",
    "weather": """is_weather(arrivals, most, thing), sure_cover(net, arrivals, most, some), dry_weather(net, arrivals, most,
        some), is_dry_weather(net, arrivals, most, some, thing), breaking(net, arrivals, most, taking),
        surely_can_be(net, arrivals, most, taking), is_breaking(net, arrivals, most, taking, thing), fewest_out(net,
        arrivals, taking), sure_shares(net, arrivals, most, rank), worst_weather(net, arrivals, most, rank,
        customer), is_worst_weather(net, arrivals, most, rank, customer, thing), fewest_out_for(net, arrivals, rank,
        customer, number), felt_spots(net, arrivals, some)""",
    "days": """last_hour(net, customer), known_to(arrivals, hour), amount_known(net, arrivals, wishes, rank, customer),
        late_ones(net, arrivals, wishes, rank), tied(net, yards, rank, customer), tie(net, yards, rank, customer),
        is_tie(net, yards, rank, customer, thing), in_time(net, yards, rank, customer), all_in_time(net, yards,
        rank), always_in_time(net, yards, customer), two_arrivals(net, yards, rank, customer), are_two_arrivals(net,
        yards, rank, customer, thing), how_many_in_time(net, yards), rank_in_time(net, yards), ranks_in_time(net,
        yards)""",
    "hidden": """sets_of_places(many), is_table(many, thing), table_of(net, arrivals), net_for(many, table), allows(many,
        table, taking), all_tables(many, most), is_readings(many, thing), goes_with(many, table, readings),
        tables_with(many, most, readings), first_clash(many, most, readings), told_of(many, most, readings, taking),
        cover_range(many, most, readings, some), open_taking(many, most, readings), is_open_taking(many, most,
        readings, thing), covers_told(many, most, asker)""",
    "watches": """is_edit(thing), edited(net, arrivals, edit), undone_by(net, arrivals, edit), do_commute(net, arrivals, one,
        other)""",
    "desk": """answers(text)""",
}

CLASSES = {
    ("hidden", "Asking"): ("many, most", "many most asked left table", "next_taking(), tell(answer), undo(), __eq__(other)"),
    ("watches", "Watch"): ("net, arrivals", "net arrivals told", """do(edit), back(), back_alone(place), twin(), cover(some), can_be(taking), by_rank(rank),
        grown(), first_not(taking), least_cover(some), __len__(), __eq__(other)"""),
    ("board", "Board"): ("", "names deeds", """put(name, net, arrivals), drop(name), rename(name, new), edit(name, edit), undo(), twin(), with_customer(name),
        where_can(pairs), alike(), at_least(name), __len__(), __contains__(name), __getitem__(name), __eq__(other)"""),
}


def listed(text):
    """The pairs of a name and its parameters."""
    rows = []
    for part in text.replace("\n", " ").split("),"):
        name, _, rest = part.strip().rstrip(")").partition("(")
        rows.append((name, [word.strip() for word in rest.split(",")]))
    return rows


class Interface(unittest.TestCase):
    def test_functions(self):
        for place, text in INTERFACE.items():
            module = importlib.import_module("freightrights." + place)
            with open(os.path.join(ROOT, "freightrights", place + ".py")) as file:
                defined = {node.name for node in ast.parse(file.read()).body if isinstance(node, ast.FunctionDef)}
            for name, parameters in listed(text):
                with self.subTest(name=name):
                    self.assertIn(name, defined)
                    found = inspect.signature(getattr(module, name)).parameters
                    self.assertEqual(list(found), parameters)
                    for part in found.values():
                        self.assertEqual(part.kind, part.POSITIONAL_OR_KEYWORD)
                        self.assertIs(part.default, part.empty)

    def test_number_of_functions(self):
        many = {place: len(listed(text)) for place, text in INTERFACE.items()}
        self.assertEqual(many, {"nets": 22, "texts": 6, "plans": 12, "cuts": 12, "covers": 16, "fulls": 19, "trades": 12, "rights": 15, "rows": 10, "spreads": 8, "wishes": 15, "promises": 11, "works": 12,
                                "betters": 14, "weather": 13, "days": 15, "hidden": 15, "watches": 4, "desk": 1})

    def test_classes(self):
        for (place, word), (handed, properties, methods) in CLASSES.items():
            module = importlib.import_module("freightrights." + place)
            with open(os.path.join(ROOT, "freightrights", place + ".py")) as file:
                self.assertIn(word, [node.name for node in ast.parse(file.read()).body if isinstance(node, ast.ClassDef)])
            found = getattr(module, word)
            self.assertEqual(found.__bases__, (object,))
            self.assertEqual(list(inspect.signature(found).parameters), handed.split(", ") if handed else [])
            for name in properties.split():
                self.assertIsInstance(vars(found)[name], property)
                self.assertIsNone(vars(found)[name].fset)
            for name, parameters in listed(methods):
                told = list(inspect.signature(vars(found)[name]).parameters.values())
                self.assertEqual([part.name for part in told], ["self"] + [part for part in parameters if part], name)
                self.assertTrue(all(part.kind == part.POSITIONAL_OR_KEYWORD and part.default is part.empty for part in told))

    def test_files(self):
        """Each file of the document's interface is there, and holds something that the tests above look at."""
        named = {place for place, _ in CLASSES} | set(INTERFACE) | {"errors"}
        self.assertEqual(len(named), 21)
        self.assertLessEqual({name + ".py" for name in named}, set(os.listdir(os.path.join(ROOT, "freightrights"))))


class Errors(unittest.TestCase):
    def test_classes(self):
        self.assertEqual(errors.FreightError.__bases__, (ValueError,))
        with open(os.path.join(ROOT, "freightrights", "errors.py")) as file:
            defined = {node.name for node in ast.parse(file.read()).body if isinstance(node, ast.ClassDef)}
        self.assertEqual(defined, set(ERRORS) | {"FreightError"})
        for name in ERRORS:
            self.assertEqual(getattr(errors, name).__bases__, (errors.FreightError,), name)

    def test_values(self):
        for name, kept in ERRORS.items():
            for worth in ("x", 3, None, (1, 2)):
                if kept:
                    found = [getattr(errors, name)(worth), getattr(errors, name)(**{kept[0]: worth})]
                    for error in found:
                        self.assertEqual(vars(error), {kept[0]: worth})

    def test_too_many_or_too_few(self):
        for name, kept in ERRORS.items():
            with self.assertRaises(TypeError, msg=name):
                getattr(errors, name)(*["x"] * (len(kept) + 1))
            with self.assertRaises(TypeError, msg=name):
                getattr(errors, name)(other="x")
            if kept:
                with self.assertRaises(TypeError, msg=name):
                    getattr(errors, name)()
            else:
                self.assertEqual(vars(getattr(errors, name)()), {})

    def test_raised_and_caught(self):
        for name, kept in ERRORS.items():
            with self.assertRaises(ValueError) as caught:
                raise getattr(errors, name)(*["q"] * len(kept))
            self.assertIsInstance(caught.exception, errors.FreightError)
            self.assertIsInstance(str(caught.exception), str)


if __name__ == "__main__":
    unittest.main()
