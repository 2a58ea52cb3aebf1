"""The desk: rows, answers, refusals, lists within lists [25, 27, 28]."""

import copy
import inspect
import random
import unittest

from pagelend import desk as desk_module
from pagelend.desk import Desk
from pagelend.errors import LendError, NoList, NoRow, NoText, TooDeep, TooMany
from pagelend.logs import first_stale
from pagelend.texts import setup_text, step_text
from plain_model import Model, Refused
from test_world_runs import drawn_setup, drawn_step
from things import SIGNS, anything, no_texts, spoilt_by_a_sign, spoilt_by_a_word
from world_help import SETUP, answer_of

TEXT = "files home:2,log:1 clients ann:100:0,bo:100:0,cy:100:0 length 10 drift 10"
LEASED = ["write ann home 0 7", "deliver 0", "deliver 1"]
PLAIN = {"undo": 0, "time": 0, "wire": 0, "lost": 0, "stale": 0, "depth": 0, "said": 0,
         "holds": 1, "do": 1, "value": 2, "dirty": 2}
STEP_WORDS = "read write ask pass deliver drop save yield fall crash".split()


def leased():
    """A desk in which ann has a lease to write of home, and wrote 7 to page 0."""
    desk = Desk(TEXT)
    for row in LEASED:
        desk.say(row)
    return desk


def refused(asked, *parts):
    """The name and the fields of a refusal, the text of it left out."""
    answer = answer_of(asked, *parts)
    assert isinstance(answer, tuple), answer
    return answer


LOOKS = ["time", "wire", "holds home", "holds log", "lost", "stale", "value home 0",
         "value home 1", "value log 0", *[
             f"dirty {client} {file}" for client in ["ann", "bo", "cy"] for file in ["home", "log"]]]


def looks(desk):
    return [desk.say(row) for row in LOOKS]


class DeskCase(unittest.TestCase):
    def says(self, desk, *rows):
        """Each row is answered so: a text."""
        for row, expected in rows:
            answer = desk.say(row)
            self.assertEqual(answer, expected, row)
            self.assertIs(type(answer), str)

    def refuses(self, desk, row, expected):
        """It is refused just so, twice; it changes nothing, and is counted."""
        before = looks(desk)
        for _ in range(2):
            said = int(desk.say("said"))
            self.assertEqual(refused(desk.say, row), expected, row)
            self.assertEqual(desk.say("said"), str(said + 2))
            self.assertEqual(desk.say("depth"), "0")
        self.assertEqual(looks(desk), before)


class Making(DeskCase):
    def test_of_a_setups_text(self):
        desk = Desk(TEXT)
        self.says(desk, ("time", "0"), ("value home 1", "0"), ("read cy log 0", "waits"))
        self.assertEqual(refused(desk.say, "value home 2"), ("NoPage", 2))
        desk = Desk("files a:4 clients b:50:99 length 2 drift 50")
        self.says(desk, ("value a 3", "0"), ("read b a 3", "waits"), ("fall b", "done"))
        self.assertEqual(refused(desk.say, "read ann a 0"), ("NoClient", "ann"))

    def test_no_text_of_anything(self):
        for thing in [*anything(), SETUP, TEXT + " ", TEXT + "\n", " " + TEXT, TEXT.upper(),
                      TEXT.replace("10", "010"), TEXT.replace("home", "log"), [TEXT], (TEXT,),
                      TEXT.replace("home:2", "home:5"), TEXT.replace("cy", "server"),
                      TEXT.replace("length 10", "length 1001"), TEXT[:-3]]:
            before = copy.deepcopy(thing)
            for more in [{}, {"lists": (("a", ("time",)),)}, {"most": 1}]:
                with self.assertRaises(NoText) as caught:
                    Desk(thing, **more)
                self.assertIsNone(caught.exception.line)
            self.assertEqual(thing, before)

    def test_each_desk_has_its_own_world_and_count(self):
        one, other = Desk(TEXT), Desk(TEXT)
        self.says(one, ("pass 5", "done"), ("said", "2"))
        self.says(other, ("time", "0"), ("said", "2"))

    def test_at_most_so_many_things(self):
        for most in [1, 2, 300]:
            desk = Desk(TEXT, most=most)
            for _ in range(most):
                self.says(desk, ("pass 1", "done"))
            self.refuses(desk, "pass 1", ("TooMany", most))
            self.refuses(desk, "pass 0", ("NoTicks",))
            self.says(desk, ("undo", "done"), ("crash", "done"), ("time", str(most - 1)))
            self.refuses(desk, "crash", ("TooMany", most))

    def test_most_is_300_where_it_is_left_out(self):
        desk = Desk(TEXT)
        for _ in range(300):
            desk.say("pass 1")
        self.refuses(desk, "pass 1", ("TooMany", 300))


class Steps(DeskCase):
    def test_answers(self):
        self.says(
            Desk(TEXT), ("read ann home 0", "waits"), ("ask ann", "done"), ("drop 0", "done"),
            ("deliver 1", "done"), ("deliver 2", "done"), ("read ann home 0", "0"),
            ("write ann home 0 999", "waits"), ("deliver 3", "done"), ("deliver 4", "done"),
            ("write ann home 1 1", "done"), ("read ann home 0", "999"), ("read ann home 1", "1"),
            ("save ann home", "done"), ("deliver 5", "done"), ("value home 0", "999"),
            ("yield ann home", "done"), ("pass 12", "done"), ("time", "12"), ("fall ann", "done"),
            ("crash", "done"))

    def test_as_the_world_refuses(self):
        desk = leased()
        desk.say("write bo home 0 5")
        for row, expected in [
                ("read zed home 0", ("NoClient", "zed")), ("read ann zed 0", ("NoFile", "zed")),
                ("read server home 0", ("NoClient", "server")),
                ("read ann home 2", ("NoPage", 2)), ("read bo home 0", ("Busy", "bo")),
                ("read ann home 999999999999", ("NoPage", 10 ** 12 - 1)),
                ("write ann home 0 0", ("NoValue",)), ("write ann home 0 1000", ("NoValue",)),
                ("write ann home 0 999999999999", ("NoValue",)),
                ("write zed zed 9 0", ("NoClient", "zed")), ("write ann zed 9 0", ("NoFile", "zed")),
                ("write ann home 9 0", ("NoPage", 9)), ("write bo home 0 0", ("NoValue",)),
                ("ask zed", ("NoClient", "zed")), ("ask ann", ("NotWaiting", "ann")),
                ("pass 0", ("NoTicks",)), ("pass 1000001", ("NoTicks",)),
                ("deliver 0", ("NoMessage", 0)), ("deliver 999999999999", ("NoMessage", 10 ** 12 - 1)),
                ("drop 9", ("NoMessage", 9)), ("save ann log", ("Clean",)),
                ("save zed zed", ("NoClient", "zed")), ("save ann zed", ("NoFile", "zed")),
                ("yield ann log", ("NoLease",)), ("yield zed zed", ("NoClient", "zed")),
                ("yield ann zed", ("NoFile", "zed")), ("fall zed", ("NoClient", "zed"))]:
            self.refuses(desk, row, expected)

    def test_names_and_numbers_as_in_a_text(self):
        for row in [
                "read Ann home 0", "read ann Home 0", "read ann home 00", "read ann home -1",
                "read ann home x", "read ann home 1000000000000", "read abcdefghi home 0",
                "write ann home 0 01", "write ann home 0 +1", "pass 01", "pass one", "pass -1",
                "pass 1000000000000", "deliver 00", "deliver x", "drop", "drop 1 2", "crash now",
                "save ann", "save ann home 0", "yield a1 home", "fall", "fall ann bo", "ask",
                "read ann home", "read ann home 0 0", "write ann home 0"]:
            self.refuses(leased(), row, ("NoRow",))

    def test_drawn_steps_against_the_plain_model(self):
        for seed in range(30):
            draw = random.Random(seed)
            setup = drawn_setup(draw)
            desk, model = Desk(setup_text(setup), most=90), Model(setup, most=90)
            for at in range(100):
                row, asked = "undo", model.take_back
                if draw.random() < 0.9:
                    step = drawn_step(draw, model)
                    row, asked = step_text(step), lambda: model.do(step)
                try:
                    expected = asked()
                except Refused as refusal:
                    self.assertEqual(
                        refused(desk.say, row), (refusal.name, *refusal.fields), (seed, at))
                else:
                    self.says(desk, (row, "done" if row == "undo" else str(expected)))
                self.looks_alike(desk, model)

    def looks_alike(self, desk, model):
        """The rows tell what the model has, written as the interface says."""
        def joined(things):
            return " ".join(things) or "none"
        stale = first_stale(model.log)
        rows = [
            ("time", str(model.time)), ("stale", "none" if stale is None else str(stale)),
            ("wire", joined([
                f"{number}:{source}:{to}:{what[0]}"
                for number, source, to, what in model.told()["wire"]])),
            ("lost", joined([str(task) for task in model.told()["lost"]]))]
        for file, pages in model.files:
            holds = model.told()[file, "holds"]
            rows.append((f"holds {file}", joined([":".join(map(str, row[:5])) for row in holds])))
            for page in range(pages):
                rows.append((f"value {file} {page}", str(model.server[file]["values"][page])))
            for client in model.clocks:
                dirty = model.told()[client, file][3]
                rows.append((f"dirty {client} {file}", joined([f"{row[0]}:{row[1]}" for row in dirty])))
        self.says(desk, *rows)


class Rows(DeskCase):
    def test_undo(self):
        desk = Desk(TEXT)
        self.refuses(desk, "undo", ("NothingLeft",))
        self.says(desk, ("pass 3", "done"), ("pass 4", "done"), ("undo", "done"), ("time", "3"))
        self.says(desk, ("undo", "done"), ("time", "0"))
        self.refuses(desk, "undo", ("NothingLeft",))

    def test_undo_takes_back_what_was_done_not_what_was_asked(self):
        desk = Desk(TEXT)
        desk.say("pass 3")
        looks(desk)
        refused(desk.say, "pass 0")
        self.says(desk, ("undo", "done"), ("time", "0"))

    def test_time(self):
        self.says(Desk(TEXT), ("time", "0"), ("pass 1000000", "done"), ("time", "1000000"))

    def test_value(self):
        desk = leased()
        self.says(desk, ("value home 0", "0"), ("save ann home", "done"), ("deliver 2", "done"))
        self.says(desk, ("value home 0", "7"), ("value home 1", "0"), ("value log 0", "0"))
        for row, expected in [
                ("value home 2", ("NoPage", 2)), ("value log 1", ("NoPage", 1)),
                ("value home 999999999999", ("NoPage", 10 ** 12 - 1)),
                ("value zed 0", ("NoFile", "zed")), ("value zed 9", ("NoFile", "zed")),
                ("value Home 0", ("NoFile", "Home")), ("value ann 0", ("NoFile", "ann")),
                ("value abcdefghi 0", ("NoFile", "abcdefghi")), ("value 0 0", ("NoFile", "0")),
                ("value ~;: 0", ("NoFile", "~;:"))]:
            self.refuses(desk, row, expected)
        for row in ["value", "value home", "value home 0 0", "value home x", "value home 00",
                    "value home -1", "value home 1000000000000", "value zed x", "value home 01",
                    "value home 0 ", "value  0", "value home ", "value home +1", "value home 0x0"]:
            self.refuses(desk, row, ("NoRow",))

    def test_wire(self):
        desk = Desk(TEXT)
        self.says(desk, ("wire", "none"), ("write ann home 0 7", "waits"))
        self.says(desk, ("wire", "0:ann:server:ask"), ("read bo home 0", "waits"))
        self.says(desk, ("wire", "0:ann:server:ask 1:bo:server:ask"), ("deliver 0", "done"))
        self.says(desk, ("wire", "1:bo:server:ask 2:server:ann:grant"), ("deliver 2", "done"))
        self.says(desk, ("save ann home", "done"), ("wire", "1:bo:server:ask 3:ann:server:save"))
        self.says(desk, ("deliver 3", "done"), ("wire", "1:bo:server:ask 4:server:ann:saved"))
        self.says(desk, ("deliver 1", "done"), ("wire", "4:server:ann:saved 5:server:ann:recall"))
        self.says(desk, ("deliver 5", "done"), ("wire", "4:server:ann:saved 6:ann:server:back"))
        self.says(desk, ("drop 4", "done"), ("drop 6", "done"), ("wire", "none"))

    def test_wire_by_numbers(self):
        desk = Desk(TEXT)
        for _ in range(5):
            for row in ["read ann home 0", "fall ann", "read ann log 0", "fall ann"]:
                desk.say(row)
        self.says(desk, ("wire", " ".join([f"{number}:ann:server:ask" for number in range(10)])))
        desk.say("read ann home 0")
        self.assertEqual(desk.say("wire").split(" ")[-1], "10:ann:server:ask")

    def test_holds(self):
        desk = leased()
        self.says(desk, ("holds home", "ann:write:1:1:10"), ("holds log", "none"))
        desk = Desk(TEXT)
        for row in ["read bo home 0", "deliver 0", "pass 3", "read ann home 0", "deliver 2"]:
            desk.say(row)
        self.says(desk, ("holds home", "ann:read:2:2:13 bo:read:1:1:10"))
        self.refuses(desk, "holds zed", ("NoFile", "zed"))
        self.refuses(desk, "holds Home", ("NoFile", "Home"))
        self.refuses(desk, "holds 7", ("NoFile", "7"))
        self.refuses(desk, "holds ann", ("NoFile", "ann"))
        for row in ["holds", "holds home log", "holds ", "holds  home", "holds home ", "holds\nhome"]:
            self.refuses(desk, row, ("NoRow",))

    def test_holds_of_a_lease_made_longer(self):
        desk = leased()
        for row in ["pass 9", "write ann home 0 8", "deliver 2"]:
            desk.say(row)
        self.says(desk, ("holds home", "ann:write:1:2:19"))

    def test_dirty(self):
        desk = leased()
        self.says(desk, ("dirty ann home", "0:7"), ("dirty ann log", "none"))
        self.says(desk, ("write ann home 1 999", "done"), ("dirty ann home", "0:7 1:999"))
        self.says(desk, ("write ann home 0 8", "done"), ("dirty ann home", "0:8 1:999"))
        self.says(desk, ("dirty bo home", "none"), ("save ann home", "done"))
        self.says(desk, ("deliver 2", "done"), ("deliver 3", "done"), ("dirty ann home", "none"))
        for row, expected in [
                ("dirty zed home", ("NoClient", "zed")), ("dirty zed zed", ("NoClient", "zed")),
                ("dirty ann zed", ("NoFile", "zed")), ("dirty home ann", ("NoClient", "home")),
                ("dirty server home", ("NoClient", "server")), ("dirty Ann 9", ("NoClient", "Ann")),
                ("dirty ann 9", ("NoFile", "9"))]:
            self.refuses(desk, row, expected)
        for row in ["dirty", "dirty ann", "dirty ann home 0", "dirty  ann home", "dirty ann "]:
            self.refuses(desk, row, ("NoRow",))

    def test_lost(self):
        desk = leased()
        self.says(desk, ("lost", "none"), ("write ann home 1 8", "done"), ("fall ann", "done"))
        self.says(desk, ("lost", "none"), ("pass 10", "done"), ("read bo home 0", "waits"))
        self.says(desk, ("deliver 2", "done"), ("lost", "0 1"))

    def test_lost_is_rising(self):
        desk = Desk(TEXT)
        for row in ["write bo log 0 5", "deliver 0", "deliver 1", "write ann home 0 7", "deliver 2",
                    "deliver 3", "write ann home 1 8", "fall ann", "fall bo", "pass 20",
                    "write cy home 0 1", "deliver 4"]:
            desk.say(row)
        self.says(desk, ("lost", "1 2"))
        for row in ["fall cy", "write cy log 0 1", "deliver 6"]:
            desk.say(row)
        self.says(desk, ("lost", "0 1 2"))

    def test_stale(self):
        self.says(leased(), ("stale", "none"))
        # bo's clock is so slow that he reads by a lease that was waited out.
        desk = Desk("files home:1 clients ann:100:0,bo:50:0 length 4 drift 0")
        for row in ["read bo home 0", "deliver 0", "deliver 1", "pass 4", "write ann home 0 5",
                    "deliver 2", "deliver 3"]:
            desk.say(row)
        self.says(desk, ("stale", "none"), ("read bo home 0", "0"), ("stale", "2"))
        self.says(desk, ("read bo home 0", "0"), ("stale", "2"), ("undo", "done"), ("stale", "2"))
        self.says(desk, ("undo", "done"), ("stale", "none"))

    def test_words_behind_those_that_have_none(self):
        for word in [word for word, many in PLAIN.items() if many == 0]:
            for row in [word + " ", " " + word, word + " x", word + " 0", word + "\n", "\n" + word,
                        word + " " + word, word.upper(), word + "s", word[:-1], word.capitalize()]:
                self.refuses(leased(), row, ("NoRow",))

    def test_no_rows(self):
        for row in ["", " ", "  ", "\n", "x", "0", "none", "done", "waits", "next ann", "ask  ann",
                    "read  ann home 0", " read ann home 0", "read ann home 0 ", "crash ", "crash\n",
                    "pass 1\npass 1", "pass 1; pass 1", "lease ann home", "queue home", "log",
                    "quiet", "sent", "stamp home 0", "lists", "say", "together", "take_back",
                    "go_on", "go_on 1", "give_back ann home", "value\thome 0", "x" * 10000,
                    " " * 10000, "\n" * 10000, "time\r", "read\tann home 0"]:
            self.refuses(leased(), row, ("NoRow",))

    def test_no_row_of_anything(self):
        desk = Desk(TEXT, lists=(("a", ("time",)),))
        for thing in [*anything(), ["time"], ("time",), ("pass", 1), [["do", "a"]], b"time"]:
            before = copy.deepcopy(thing)
            self.refuses(desk, thing, ("NoRow",))
            self.assertEqual(thing, before)


def due(row):
    """Whether it is no row: True, else what it is, by its words alone."""
    words = row.split(" ")
    if any(word == "" or "\n" in word for word in words):
        return True
    if words[0] in PLAIN:
        if len(words) != PLAIN[words[0]] + 1:
            return True
        if words[0] == "value":
            page = words[2]
            return not (page.isdigit() and len(page) <= 12 and str(int(page)) == page)
        return False
    shapes = {"read": "nn1", "write": "nn11", "ask": "n", "pass": "1", "deliver": "1",
              "drop": "1", "save": "nn", "yield": "nn", "fall": "n", "crash": ""}
    shape = shapes.get(words[0])
    if shape is None or len(shape) != len(words) - 1:
        return True
    for part, word in zip(shape, words[1:]):
        if part == "n" and not (word.isalpha() and word.islower() and len(word) <= 8):
            return True
        if part == "1" and not (word.isdigit() and len(word) <= 12 and str(int(word)) == word):
            return True
    return False


class Spoilt(DeskCase):
    def is_due(self, row):
        """NoRow, where that is due, else an answer or another refusal."""
        desk = Desk(TEXT, lists=(("a", ()), ("b", ())))
        try:
            answer = desk.say(row)
        except NoRow:
            self.assertTrue(due(row), repr(row))
        except LendError:
            self.assertFalse(due(row), repr(row))
        else:
            self.assertFalse(due(row), repr(row))
            self.assertIs(type(answer), str)
        self.assertEqual(desk.say("said"), "2")

    def test_by_a_sign(self):
        for row in ["value home 0", "holds home", "dirty ann home", "do a", "undo", "said",
                    "pass 12", "save ann home"]:
            for text in spoilt_by_a_sign(row):
                self.is_due(text)

    def test_by_a_word(self):
        words = ["", "\n", "ann", "home", "0", "01", "a", "X~", *PLAIN, *STEP_WORDS]
        for row in ["value home 0", "holds home", "dirty ann home", "do a", "undo", "time",
                    "read ann home 0", "write ann home 0 7", "ask ann", "crash"]:
            for text in spoilt_by_a_word(row, words):
                self.is_due(text)

    def test_any_words_where_they_are_told(self):
        for sign in SIGNS:
            if sign not in " \n":
                desk = Desk(TEXT)
                self.assertEqual(refused(desk.say, f"holds {sign}"), ("NoFile", sign))
                self.assertEqual(refused(desk.say, f"dirty {sign} x"), ("NoClient", sign))
                self.assertEqual(refused(desk.say, f"dirty ann {sign}"), ("NoFile", sign))
                self.assertEqual(refused(desk.say, f"value {sign} 0"), ("NoFile", sign))
                self.assertEqual(refused(desk.say, f"do {sign}"), ("NoList", sign))


LISTS = (
    ("none", ()), ("one", ("time",)), ("three", ("pass 2", "time", "read ann home 0")),
    ("inner", ("depth", "do one", "depth")), ("outer", ("depth", "do inner", "depth", "said")),
    ("deep", ("depth", "do deep")))


class Lists(DeskCase):
    def test_answers_one_behind_the_other(self):
        desk = Desk(TEXT, lists=LISTS)
        self.says(desk, ("do one", "0"), ("do three", "done; 2; waits"), ("do one", "2"))
        self.assertEqual(refused(desk.say, "do three"), ("Busy", "ann"))
        self.says(desk, ("time", "4"))

    def test_none_without_any(self):
        self.says(Desk(TEXT, lists=LISTS), ("do none", "none"))
        desk = Desk(TEXT, lists=(("a", ("do b", "wire", "do b")), ("b", ())))
        self.says(desk, ("do a", "none; none; none"), ("do b", "none"))

    def test_lists_within_lists(self):
        desk = Desk(TEXT, lists=LISTS)
        self.says(desk, ("do inner", "1; 0; 1"), ("do outer", "1; 2; 0; 2; 1; 14"))
        self.says(desk, ("depth", "0"), ("said", "16"))

    def test_three_under_way(self):
        lists = (("a", ("depth", "do b", "depth")), ("b", ("depth", "do c", "depth")),
                 ("c", ("depth", "said", "depth")))
        desk = Desk(TEXT, lists=lists)
        self.says(desk, ("do a", "1; 2; 3; 7; 3; 2; 1"), ("depth", "0"), ("said", "12"))

    def test_too_deep_where_three_are_under_way(self):
        lists = (("a", ("pass 1", "do b", "pass 1")), ("b", ("pass 1", "do c", "pass 1")),
                 ("c", ("pass 1", "do d", "pass 1")), ("d", ("pass 1",)), ("e", ()))
        desk = Desk(TEXT, lists=lists)
        self.assertEqual(refused(desk.say, "do a"), ("TooDeep",))
        self.says(desk, ("time", "3"), ("depth", "0"), ("said", "10"))
        self.assertEqual(desk.say("do d"), "done")
        self.assertEqual(desk.say("do c"), "done; done; done")
        self.assertEqual(desk.say("do b"), "done; done; done; done; done")

    def test_a_list_that_does_itself(self):
        desk = Desk(TEXT, lists=LISTS)
        for turn in range(1, 4):
            with self.assertRaises(TooDeep):
                desk.say("do deep")
            self.says(desk, ("depth", "0"), ("said", str(9 * turn)))

    def test_no_list(self):
        desk = Desk(TEXT, lists=LISTS)
        for name in ["x", "on", "ones", "One", "two", "time", "7", "~", "a;b", "abcdefghijk"]:
            with self.assertRaises(NoList) as caught:
                desk.say("do " + name)
            self.assertEqual(caught.exception.name, name)
        for row in ["do", "do ", "do  one", "do one two", "do one ", "do\none", "do one\n", "Do one"]:
            self.refuses(desk, row, ("NoRow",))
        self.refuses(Desk(TEXT), "do one", ("NoList", "one"))

    def test_no_list_goes_ahead_of_too_deep(self):
        lists = (("a", ("do b",)), ("b", ("do c",)), ("c", ("do x",)))
        desk = Desk(TEXT, lists=lists)
        self.assertEqual(refused(desk.say, "do a"), ("NoList", "x"))
        self.says(desk, ("depth", "0"), ("said", "6"))
        lists = (("a", ("do b",)), ("b", ("do c",)), ("c", ("do none",)), ("none", ()))
        self.assertEqual(refused(Desk(TEXT, lists=lists).say, "do a"), ("TooDeep",))

    def test_a_row_that_is_refused_ends_all_lists(self):
        for row, expected in [
                ("pass 0", ("NoTicks",)), ("read zed home 0", ("NoClient", "zed")), ("x", ("NoRow",)),
                ("", ("NoRow",)), ("do x", ("NoList", "x")), ("holds x", ("NoFile", "x")),
                ("value home 2", ("NoPage", 2)), ("ask ann", ("NotWaiting", "ann")),
                ("deliver 0", ("NoMessage", 0)), ("save ann home", ("Clean",)),
                ("yield ann home", ("NoLease",)), ("write ann home 0 0", ("NoValue",)),
                ("value home x", ("NoRow",))]:
            lists = (("a", ("pass 1", "do b", "pass 10")), ("b", ("pass 2", "do c", "pass 20")),
                     ("c", ("pass 3", row, "pass 30")))
            desk = Desk(TEXT, lists=lists)
            self.assertEqual(refused(desk.say, "do a"), expected)
            # Three lists, three rows done, the refused one, depth and said.
            self.says(desk, ("depth", "0"), ("said", "9"), ("time", "6"))
            self.assertEqual(refused(desk.say, "do c"), expected)
            self.says(desk, ("depth", "0"), ("time", "9"), ("said", "16"))
            self.assertEqual(refused(desk.say, "do b"), expected)
            self.says(desk, ("depth", "0"), ("time", "14"))

    def test_nothing_left_and_too_many_within_lists(self):
        desk = Desk(TEXT, lists=(("a", ("undo",)), ("b", ("pass 1", "do a", "do a", "pass 5"))))
        self.assertEqual(refused(desk.say, "do b"), ("NothingLeft",))
        self.says(desk, ("time", "0"), ("depth", "0"), ("said", "9"))
        desk = Desk(TEXT, lists=(("a", ("pass 1",) * 8), ("b", ("do a",) * 8)), most=20)
        with self.assertRaises(TooMany) as caught:
            desk.say("do b")
        self.assertEqual(caught.exception.most, 20)
        # do b, three lists, 21 rows, and this one.
        self.says(desk, ("said", "26"), ("time", "20"), ("depth", "0"))

    def test_what_was_done_is_taken_back_one_by_one(self):
        desk = Desk(TEXT, lists=(("a", ("pass 1", "pass 2", "pass 3")),))
        self.says(desk, ("do a", "done; done; done"), ("undo", "done"), ("time", "3"))
        self.says(desk, ("undo", "done"), ("time", "1"), ("undo", "done"), ("time", "0"))

    def test_lists_again_behind_a_refusal(self):
        desk = Desk(TEXT, lists=(("a", ("depth", "do b")), ("b", ("depth", "ask ann", "depth"))))
        for _ in range(5):
            self.assertEqual(refused(desk.say, "do a"), ("NotWaiting", "ann"))
        desk.say("read ann home 0")
        self.says(desk, ("do a", "1; 2; done; 2"))

    def test_refused_things_outside_of_lists_count_too(self):
        desk = Desk(TEXT)
        for many, thing in enumerate([*no_texts(), "", "x", "do x", "pass 0", "time", "undo"]):
            answer_of(desk.say, thing)
            self.assertEqual(desk.say("said"), str(2 * many + 2))

    def test_the_most_lists_and_rows(self):
        rows = ("pass 1",) * 8
        lists = tuple((name, rows) for name in ["a", "b", "c", "d", "e", "abcdefgh"])
        desk = Desk(TEXT, lists=lists)
        for name, _ in lists:
            self.says(desk, (f"do {name}", "; ".join(["done"] * 8)))
        self.says(desk, ("time", "48"), ("said", "56"))
        lists = (("a", ("do b",) * 8), ("b", ("do c",) * 8), ("c", ("time",) * 8))
        desk = Desk(TEXT, lists=lists)
        self.says(desk, ("do a", "; ".join(["0"] * 512)), ("said", str(1 + 8 + 64 + 512 + 1)))

    def test_somewhat_beyond_the_most(self):
        lists = tuple((name, ("time",) * 9) for name in "abcdefg")
        desk = Desk(TEXT, lists=lists)
        for name, _ in lists:
            self.says(desk, (f"do {name}", "; ".join(["0"] * 9)))

    def test_names_of_lists_that_are_words_of_rows(self):
        lists = tuple((name, ("depth",)) for name in ["do", "time", "depth", "said", "pass", "ann"])
        desk = Desk(TEXT, lists=lists)
        for name, _ in lists:
            self.says(desk, (f"do {name}", "1"))
        self.says(desk, ("time", "0"), ("depth", "0"))

    def test_what_is_handed_in_is_kept_as_a_copy(self):
        rows = ["time"]
        lists = [("a", rows), ("b", ("do a",))]
        desk = Desk(TEXT, lists=lists)
        rows[0] = "x"
        rows.append("x")
        lists.clear()
        self.says(desk, ("do b", "0"))
        lists = (("a", ("time", "do b")), ("b", ()))
        before = copy.deepcopy(lists)
        desk = Desk(TEXT, lists=lists)
        self.says(desk, ("do a", "0; none"), ("do a", "0; none"))
        self.assertEqual(lists, before)

    def test_two_desks_of_the_same_lists(self):
        one, other = Desk(TEXT, lists=LISTS), Desk(TEXT, lists=LISTS)
        self.assertEqual(refused(one.say, "do deep"), ("TooDeep",))
        self.says(other, ("said", "1"), ("do outer", "1; 2; 0; 2; 1; 10"))

    def test_drawn_lists_against_plain_words(self):
        for seed in range(300):
            self.drawn(random.Random(seed))

    def drawn(self, draw):
        """Rows of drawn lists, with what is due counted by hand."""
        names = ["a", "b", "c", "d"]
        choices = ["pass 1", "time", "depth", "said", "undo", "x", "pass 0", *[
            f"do {name}" for name in names * 2 + ["e"]]]
        weights = [3, 3, 3, 3, 1, 0.3, 0.3] + [0.7] * 9
        lists = tuple((name, tuple(draw.choices(choices, weights, k=draw.randint(0, 4))))
                      for name in names)
        desk, plain = Desk(TEXT, lists=lists), PlainDesk(dict(lists))
        for row in draw.choices(choices, [1] * len(choices), k=12):
            try:
                expected = plain.say(row, 0)
            except Refused as refusal:
                expected = (refusal.name, *refusal.fields)
            self.assertEqual(answer_of(desk.say, row), expected, (lists, row))


class PlainDesk:
    """Lists within lists, by themselves: depth is handed on, and time is all there is."""

    def __init__(self, lists):
        self.lists = lists
        self.times = [0]
        self.many = 0

    def say(self, row, depth):
        self.many += 1
        word, *rest = row.split(" ")
        if word == "do":
            return self.do(rest[0], depth)
        if word == "undo":
            if len(self.times) == 1:
                raise Refused("NothingLeft")
            self.times.pop()
            return "done"
        if row == "pass 1":
            self.times.append(self.times[-1] + 1)
            return "done"
        if row == "pass 0":
            raise Refused("NoTicks")
        if row == "x":
            raise Refused("NoRow")
        return str({"time": self.times[-1], "depth": depth, "said": self.many}[row])

    def do(self, name, depth):
        if name not in self.lists:
            raise Refused("NoList", name)
        if depth == 3:
            raise Refused("TooDeep")
        answers = [self.say(row, depth + 1) for row in self.lists[name]]
        return "; ".join(answers) if answers else "none"


class Interface(unittest.TestCase):
    def test_the_class(self):
        self.assertEqual(Desk.__module__, "pagelend.desk")
        self.assertIs(desk_module.Desk, Desk)
        self.assertEqual(
            str(inspect.signature(vars(Desk)["__init__"])), "(self, text, *, lists=(), most=300)")
        self.assertEqual(str(inspect.signature(vars(Desk)["say"])), "(self, row)")
        self.assertRaises(TypeError, Desk)
        self.assertRaises(TypeError, Desk, TEXT, ())

    def test_by_names(self):
        desk = Desk(most=1, lists=(("a", ("pass 1", "pass 1")),), text=TEXT)
        self.assertEqual(desk.say(row="time"), "0")
        with self.assertRaises(TooMany):
            desk.say(row="do a")
        self.assertEqual(desk.say(row="time"), "1")


if __name__ == "__main__":
    unittest.main()
