"""A desk: what is written, what is not, each request against a Board, refused ones."""

import random
import unittest

from helpers import chance_net, check_raises, people
from test_watches import GREAT, NET, edit_by_chance, put

from freightrights.board import Board
from freightrights.covers import can_be, cover
from freightrights.days import all_in_time
from freightrights.desk import answers
from freightrights.errors import BadLine, FreightError
from freightrights.nets import net_from, net_text, yard_names
from freightrights.rights import by_rank
from freightrights.rows import answers_to
from freightrights.texts import arrivals_text, names_text, numbers_text
from freightrights.watches import Watch
from freightrights.works import losers

ONE = "net one hours 2; yard d 0; yard m 1; line r m d 0 2; customer x d 0 1; customer y m 1"
NINES = "9" * 40


def yes(truth):
    return "yes" if truth else "no"


def edit_line(name, edit):
    """An EDIT as a line."""
    last = numbers_text(edit[-1]) if edit[0] == "hours" else str(edit[-1])
    return " ".join([edit[0], name, *(str(part) for part in edit[1:-1]), last])


def asked(board, words):
    """The answer to a line that asks something, by the functions themselves."""
    name = words[1] if len(words) > 1 else ""
    rest = tuple(words[2:]) if words[2:] != ["-"] else ()
    if words[0] == "names":
        return names_text(board.names)
    if words[0] == "where":
        pairs = words[1:] if words[1:] != ["-"] else []
        return names_text(board.where_can(tuple(zip(pairs[0::2], map(int, pairs[1::2])))))
    if words[0] == "alike":
        return "; ".join(names_text(row) for row in board.alike()) or "-"
    if words[0] == "above":
        return names_text(board.at_least(name))
    net, goods = board[name]
    if words[0] == "can":
        wanted = dict(zip(rest[0::2], map(int, rest[1::2])))
        for other in wanted:
            cover(net, goods, (other,))
        return yes(can_be(net, goods, tuple(wanted.get(other, 0) for other in people(net))))
    calls = {"text": lambda: net_text(net), "goods": lambda: arrivals_text(goods), "cover": lambda: str(cover(net, goods, rest)),
             "rank": lambda: numbers_text(by_rank(net, goods, rest)), "ask": lambda: " ".join(map(yes, answers_to(net, goods, rest))) or "-",
             "time": lambda: yes(all_in_time(net, yard_names(net), rest)), "lose": lambda: names_text(losers(net, goods, *board[words[2]]))}
    return calls[words[0]]()


def done(board, words):
    """Does a deed on the Board."""
    if words[0] in ("drop", "rename"):
        {"drop": board.drop, "rename": board.rename}[words[0]](*words[1:])
    elif words[0] == "undo":
        board.undo()
    elif words[0] == "net":
        board.put(words[1], net_from(" ".join(words[2:])), ())
    elif words[0] == "hours":
        board.edit(words[1], ("hours", words[2], tuple(int(word) for word in words[3:] if word != "-")))
    else:
        board.edit(words[1], (words[0],) + tuple(int(word) if word.isdigit() else word for word in words[2:]))
    return "done"


def some_line(chance, pairs):
    """A line by chance; most of its names are those of something."""
    name = chance.choice(["one", "two", "six", "six", "zz"])
    net = dict(pairs).get(name, pairs[0][1])
    customers = list(people(net)) + ["zz"] * (chance.random() < 0.2)
    some = sorted(other for other in customers if chance.random() < 0.6)
    row = [chance.choice(customers or ["zz"]) for _ in range(chance.choice([0, 1, 3, 6]))]
    rank = chance.sample(people(net), len(people(net)))
    both = " ".join(f"{other} {chance.choice([0, 1, 2, GREAT])}" for other in some) or "-"
    edit = edit_line(name, edit_by_chance(chance, net)).replace(" m ", chance.choice([" m ", " zz "]))
    return chance.choice([edit, edit, edit, f"drop {name}", f"rename {name} {chance.choice(['one', 'two', 'six', 'new'])}", "undo", "undo", "names", f"where {both}",
                          f"above {name}", "alike", f"text {name}", f"goods {name}", f"cover {name} {names_text(some)}", f"can {name} {both}",
                          f"rank {name} {names_text(rank)}", f"rank {name} {names_text(row)}", f"ask {name} {names_text(row)}", f"time {name} {names_text(rank)}",
                          f"lose {name} {chance.choice(['one', 'two', 'six'])}", f"net {name} {net_text(net)}"])


class Requests(unittest.TestCase):
    def test_by_chance(self):
        """Lines by chance, all answered as by a Board, each refused one with the name of the error."""
        words_done, refused = {}, {}
        for seed in range(150):
            chance = random.Random(seed)
            net = chance_net(18000 + seed, 3, 3, 4, 3)[0]
            pairs = [("one", net), ("two", put(net, (), edit_by_chance(chance, net))[0]), ("six", chance_net(18500 + seed, 3, 3, 4, 3)[0])]
            lines = [f"net {name} {net_text(worth)}" for name, worth in pairs] + [some_line(chance, pairs) for _ in range(40)]
            board, right = Board(), []
            for line in lines:
                words = line.split(" ")
                telling = words[0] in "names where above alike text goods cover can rank ask time lose".split()
                try:
                    right.append((asked if telling else done)(board, words))
                    words_done[words[0]] = words_done.get(words[0], 0) + 1
                except FreightError as error:
                    right.append("refused " + type(error).__name__)
                    refused[right[-1]] = refused.get(right[-1], 0) + 1
            self.assertEqual(answers("\n".join(lines)), right)
        self.assertEqual((len(words_done), min(words_done.values()) > 20), (21, True))
        self.assertLessEqual({"refused NoNet", "refused Known", "refused OtherCustomers", "refused NoCustomer"}, set(refused))

    def test_each_refused_one(self):
        head = ONE + "\nnet two hours 1; yard a 0; customer m a\n"
        rows = [("drop z", "NoNet"), ("rename z one", "NoNet"), ("rename one two", "Known"), ("rename one one", "Known"), ("net one hours 1; yard a 0", "Known"),
                ("most z r 1", "NoNet"), ("most one q 1", "NoLine"), ("room z d 1", "NoNet"), ("room one r 1", "NoYard"), ("arrive z m 0 1", "NoNet"),
                ("arrive one z 9 1", "NoYard"), ("arrive one m 2 1", "NoNumber"), ("arrive one m " + NINES + " 1", "NoNumber"), ("hours z x 0", "NoNet"),
                ("hours one z 9", "NoCustomer"), ("hours one x 0 2", "NoNumber"), ("stand z x m", "NoNet"), ("stand one z w", "NoCustomer"), ("stand one x w", "NoYard"),
                ("above z", "NoNet"), ("text z", "NoNet"), ("goods z", "NoNet"), ("cover z -", "NoNet"), ("cover one x z", "NoCustomer"), ("can z -", "NoNet"),
                ("can one x 0 z 0", "NoCustomer"), ("can one w 0 z 0", "NoCustomer"), ("rank z x y", "NoNet"), ("rank one x", "OtherCustomers"), ("rank one -", "OtherCustomers"),
                ("rank one x x y", "OtherCustomers"), ("ask z -", "NoNet"), ("ask one x z", "NoCustomer"), ("time z -", "NoNet"), ("time one y", "OtherCustomers"),
                ("lose z one", "NoNet"), ("lose one z", "NoNet"), ("lose one two", "OtherCustomers"), ("lose z zz", "NoNet")]
        tail = "\ntext one\ngoods one\nnames\nundo\nundo\nundo"
        right = ["done", "done", "{}", ONE[8:], "-", "one two", "done", "done", "refused NothingDone"]
        for line, word in rows:
            told = answers(head + line + tail)
            self.assertEqual(told, right[:2] + ["refused " + word] + right[3:], line)

    def test_each_request(self):
        text = "\n".join([ONE, "arrive one m 0 3", "net two hours 2; yard d 0; yard m 1; line r m d 0 2; customer x d 0 1; customer y m 1", "arrive two m 0 4", "names", "alike",
                          "above one", "lose one two", "lose two one", "hours two y 0 1", "alike", "above one", "goods two", "where x 2 y 1", "where y 2", "where -", "stand two x m",
                          "text two", "most one r 0", "lose two one", "cover one x", "cover one -", "can one -", "can one y 1", "can one y 2", "can one x 0 y 0", "rank one y x",
                          "ask one y y x", "ask one -", "time one x y", "time one y x", "rename two new", "names", "drop one", "names", "undo", "undo", "names", "hours one x -",
                          "text one", "room one m 0", "cover one y"])
        told = answers(text)
        self.assertEqual(told[:12], ["done", "done", "done", "done", "one two", "one two", "two", "-", "-", "done", "one; two", "two"])
        self.assertEqual(told[12:20], ["m 0 4", "one two", "two", "one two", "done",
                                       "hours 2; yard d 0; yard m 1; line r m d 0 2; customer x m 0 1; customer y m 0 1", "done", "x y"])
        self.assertEqual(told[20:31], ["0", "0", "yes", "yes", "no", "yes", "0 1", "yes no no", "-", "yes", "yes"])
        self.assertEqual(told[31:], ["done", "new one", "done", "new", "done", "done", "one two", "done", "hours 2; yard d 0; yard m 1; line r m d 0 0; customer x d; customer y m 1",
                                     "done", "0"])

    def test_time(self):
        net = "net one hours 2; yard a 1; customer m a 0; customer n a 0 1"
        self.assertEqual(answers(net + "\ntime one m n\ntime one n m\ntime one n\ntime one -"), ["done", "yes", "no", "refused OtherCustomers", "refused OtherCustomers"])
        self.assertEqual(answers("net one hours 1; yard a 1\ntime one -\nrank one -\nask one -\ncover one -\ncan one -\nlose one one\nabove one\nalike\ngoods one"),
                         ["done", "yes", "-", "-", "0", "yes", "-", "-", "one", "-"])

    def test_empty_board(self):
        self.assertEqual(answers(""), [])
        self.assertEqual(answers("names\nalike\nwhere -\nwhere x 1\nundo\nnames"), ["-", "-", "-", "-", "refused NothingDone", "-"])

    def test_nothing_is_left_from_one_text_to_the_next(self):
        for _ in range(2):
            self.assertEqual(answers(ONE + "\nnames"), ["done", "one"])

    def test_new_lists(self):
        first = answers("names")
        first.append("more")
        self.assertEqual((answers("names"), answers(text="names"), type(answers(""))), (["-"], ["-"], list))

    def test_sixty_lines(self):
        self.assertEqual(answers("\n".join([ONE] + ["arrive one m 0 " + str(number) for number in range(58)] + ["goods one"])), ["done"] * 59 + ["m 0 57"])
        self.assertEqual(answers("\n".join([ONE] + ["room one m 0"] * 29 + ["undo"] * 31)), ["done"] * 60 + ["refused NothingDone"])

    def test_many_digits(self):
        text = f"{ONE}\narrive one m 0 {NINES}\nmost one r {NINES}\ncover one x\nrank one x y\ncan one x {NINES}\ncan one x {NINES} y 1\nwhere x {NINES}\ntext one\ngoods one\nroom one m {NINES}"
        self.assertEqual(answers(text), ["done", "done", "done", NINES, NINES + " 0", "yes", "no", "one", ONE[8:].replace("0 2;", "0 " + NINES + ";"), "m 0 " + NINES, "done"])
        self.assertEqual(answers(f"net one hours 1; yard a {NINES}\ntext one"), ["done", f"hours 1; yard a {NINES}"])


class Lines(unittest.TestCase):
    GOOD = ["drop one", "rename one two", "undo", "most one r 5", "room one m 5", "arrive one m 1 5", "hours one x 0 1", "hours one x -", "stand one x m", "names", "where x 1 y 2",
            "where -", "above one", "alike", "text one", "goods one", "cover one x y", "cover one -", "can one x 1", "can one -", "rank one y x", "rank one -", "ask one x x",
            "ask one -", "time one x y", "time one -", "lose one two", "net one hours 1; yard a 0", ONE, "hours one x 7 8 9", "arrive z z 9 0", "most abcdefgh z 0",
            "cover z a b c", "rank q z a z", "where a 0 b " + NINES]
    BAD = ["", " ", "z", "Names", "names ", " names", "names one", "names -", "undo undo", "undo -", "alike one", "drop", "drop ", "drop one two", "drop One", "drop abcdefghi", "drop -",
           "drop one1", "rename one", "rename one two six", "rename one  two", "rename one TWO", "most one r", "most one r 05", "most one r +5", "most one r -5", "most one r 5 5",
           "most one r 5.0", "most one r x", "most one 5 r", "most one r -", "most one r 5 ", "most  one r 5", "room one m", "room one m 00", "room one m 1_0", "room abcdefghi m 1",
           "room one abcdefghi 1", "arrive one m 1", "arrive one m 1 1 1", "arrive one m x 1", "arrive one m 01 1", "arrive one m 1 01", "arrive one 1 m 1", "hours one x",
           "hours one x ", "hours one x 1 0", "hours one x 0 0", "hours one x 00", "hours one x 0  1", "hours one x 0 1 ", "hours one x a", "hours one x - 0", "hours one x 0 -",
           "hours one x --", "hours one -", "hours one", "hours one 1 0", "stand one x", "stand one x m m", "stand one x 1", "stand one x M", "where", "where ", "where x", "where x 1 y",
           "where y 1 x 1", "where x 1 x 1", "where x 01", "where x -1", "where 1 x", "where x 1  y 1", "where x y", "where - x 1", "where x 1 -", "where --", "where X 1",
           "where abcdefghi 1", "above", "above one two", "above -", "text", "text one two", "goods", "goods one -", "cover", "cover one", "cover one ", "cover one y x", "cover one x x",
           "cover one x  y", "cover one x y ", "cover one x 1", "cover one X", "cover one - x", "cover - x", "can one", "can one x", "can one y 1 x 1", "can one x 1 x 2", "can x 1",
           "can one x 1 2", "can one 1", "rank one", "rank one ", "rank one x  y", "rank one X y", "rank one x y ", "rank one - x", "rank one x,y", "ask one", "ask one x 1",
           "ask one abcdefghi", "time one", "time one  ", "lose one", "lose one two six", "lose one -", "net one", "net", "net one ", "net one hours 0", "net one hours 1",
           "net one hours 1; yard a 00", "net one  hours 1; yard a 0", "net one hours 1;yard a 0", "net one hours 1; yard a 0 ", "net one hours 1; yard a 0;", "net hours 1; yard a 0",
           "net one hours 2; yard a 0; customer m a 2", "net ONE hours 1; yard a 0", "net abcdefghi hours 1; yard a 0", "net one hours 1; yard b 0; yard a 0", "net one -", "put one",
           "edit one most r 1", "in one", "\tnames", "names\r", "drop\tone", "most one r \t5", "where x 1;", "nets", "name", "drop o ne", "most one r 5a"]

    def test_written_so(self):
        for line in self.GOOD:
            self.assertEqual(len(answers(line)), 1, line)
            self.assertEqual(len(answers(line + "\n" + line)), 2, line)

    def test_not_written_so(self):
        for line in self.BAD:
            for text, number in ((line, 0), ("names\n" + line, 1), (line + "\nnames", 0), ("names\nalike\n" + line + "\n" + line, 2), (ONE + "\nundo\nundo\n" + line, 3)):
                if text != "":
                    check_raises(self, BadLine, {"number": number}, answers, text)

    def test_line_feeds(self):
        for text, number in (("\n", 0), ("names\n", 1), ("\nnames", 0), ("names\n\nnames", 1), ("names\nnames\n", 2), ("names\n ", 1), ("\n\n", 0)):
            check_raises(self, BadLine, {"number": number}, answers, text)

    def test_first_of_several(self):
        check_raises(self, BadLine, {"number": 2}, answers, "drop z\nnames\nbad\nworse\nnames")
        check_raises(self, BadLine, {"number": 59}, answers, "\n".join(["undo"] * 59 + ["Undo"]))

    def test_all_are_read_ahead(self):
        """What is refused is no reason to stop; what is not written so is, ahead of all deeds."""
        check_raises(self, BadLine, {"number": 1}, answers, "drop z\ndrop Z")
        self.assertEqual(answers("drop z\ndrop y"), ["refused NoNet"] * 2)

    def test_characters(self):
        """Each sign from the blank to the tilde in the place of each sign of a line: written so or BadLine, nothing else."""
        chance = random.Random(7)
        signs = [chr(number) for number in range(32, 127) if chr(number) != "%"]
        found = {True: 0, False: 0}
        for line in self.GOOD:
            for at in range(len(line)):
                other = line[:at] + chance.choice(signs) + line[at + 1:]
                try:
                    found[len(answers(other)) == 1] += 1
                except BadLine as error:
                    self.assertEqual(error.number, 0)
                    found[False] += 1
        self.assertTrue(found[True] > 30 and found[False] > 200, found)


class Together(unittest.TestCase):
    def test_desk_board_watch(self):
        """The same EDITS at a desk, on a Board, by a Watch."""
        for seed in range(40):
            chance = random.Random(seed)
            net = chance_net(18900 + seed, 4, 4, 5, 4, seed % 3 == 0)[0]
            board, watch, lines = Board(), Watch(net, ()), ["net one " + net_text(net)]
            board.put("one", net, ())
            for _ in range(20):
                if chance.random() < 0.25 and len(watch):
                    watch.back()
                    board.undo()
                    lines.append("undo")
                else:
                    edit = edit_by_chance(chance, net)
                    watch.do(edit)
                    board.edit("one", edit)
                    lines.append(edit_line("one", edit))
            self.assertEqual(board["one"], (watch.net, watch.arrivals))
            self.assertEqual(board.deeds, len(watch) + 1)
            rank = tuple(chance.sample(people(net), len(people(net))))
            told = answers("\n".join(lines + ["text one", "goods one", "rank one " + names_text(rank)]))
            self.assertEqual(told, ["done"] * 21 + [net_text(watch.net), arrivals_text(watch.arrivals), numbers_text(watch.by_rank(rank))])
            self.assertEqual(net_from(told[-3]), watch.net)

    def test_net_as_it_was(self):
        self.assertEqual(net_from(answers("net one " + net_text(NET) + "\ntext one")[1]), NET)


if __name__ == "__main__":
    unittest.main()
