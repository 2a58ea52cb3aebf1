"""Setups and steps, written, read back and refused [24, 25]."""

import copy
import inspect
import itertools
import random
import re
import unittest

from pagelend import texts
from pagelend.errors import NoText
from pagelend.setups import is_setup
from pagelend.texts import read_setup, read_step, read_steps, setup_text, step_text, steps_text
from things import SIGNS, anything, no_texts, spoilt_by_a_sign, spoilt_by_a_word

SETUP = ((("home", 2), ("log", 1)), (("ann", 100, 0), ("bo", 95, 7)), 10, 10)
TEXT = "files home:2,log:1 clients ann:100:0,bo:95:7 length 10 drift 10"
LEAST = ((("a", 1),), (("a", 50, 0),), 2, 0)
GREATEST = (
    (("aaaaaaaa", 4), ("mm", 4), ("zzzzzzzz", 4)),
    (("aaaaaaaa", 200, 99), ("m", 200, 99), ("n", 200, 99), ("zzzzzzzz", 200, 99)), 1000, 50)
STEPS = [
    (("read", "ann", "home", 0), "read ann home 0"),
    (("write", "ann", "home", 1, 999), "write ann home 1 999"),
    (("ask", "bo"), "ask bo"), (("pass", 12), "pass 12"), (("deliver", 0), "deliver 0"),
    (("drop", 305), "drop 305"), (("save", "ann", "home"), "save ann home"),
    (("yield", "bo", "log"), "yield bo log"), (("fall", "ann"), "fall ann"),
    (("crash",), "crash")]
SHAPES = {
    "read": "nn1", "write": "nn11", "ask": "n", "pass": "1", "deliver": "1", "drop": "1",
    "save": "nn", "yield": "nn", "fall": "n", "crash": ""}
NAME = "[a-z]{1,8}"
NUMBER = "(?:0|[1-9][0-9]{0,11})"
GREAT = 10 ** 12 - 1
NO_NUMBERS = [
    "", "00", "01", "007", "+1", "-1", "-0", "1.0", "1e2", "0x1", "1_0", "x", "a", "one", "1a",
    "a1", "1" + "0" * 12, "9" * 13, "0" * 13, "9" * 60, "9" * 5000, ":", ",", "1,", "1:"]
NO_NAMES = ["", "abcdefghi", "Ann", "aNn", "a1", "1", "0", "a-b", "a_b", "a.b", "a:", "a,b", "~"]


def plain_step(text):
    """The step that is written so, by patterns, None where it is none."""
    words = text.split(" ")
    shape = SHAPES.get(words[0])
    if shape is None or len(shape) != len(words) - 1:
        return None
    for part, word in zip(shape, words[1:]):
        if not re.fullmatch({"n": NAME, "1": NUMBER}[part], word):
            return None
    numbers = [int(word) if part == "1" else word for part, word in zip(shape, words[1:])]
    return (words[0], *numbers)


def plain_setup(text):
    """The setup that is written so, by a pattern, None where it is none."""
    file, client = f"{NAME}:{NUMBER}", f"{NAME}:{NUMBER}:{NUMBER}"
    pattern = (f"files ({file}(?:,{file})*) clients ({client}(?:,{client})*)"
               f" length ({NUMBER}) drift ({NUMBER})")
    found = re.fullmatch(pattern, text)
    if not found:
        return None
    files, clients = [
        tuple((row.split(":")[0], *map(int, row.split(":")[1:])) for row in part.split(","))
        for part in found.groups()[:2]]
    setup = (files, clients, int(found[3]), int(found[4]))
    return setup if is_setup(setup) else None


def draw_name(rng):
    return "".join(rng.choice("abcdefghijklmnopqrstuvwxyz") for _ in range(rng.randint(1, 8)))


def draw_setup(rng):
    names = sorted({draw_name(rng) for _ in range(rng.randint(1, 3))})
    files = tuple((name, rng.randint(1, 4)) for name in names)
    names = sorted({draw_name(rng) for _ in range(rng.randint(1, 4))} - {"server"})
    clients = tuple((name, rng.randint(50, 200), rng.randint(0, 99)) for name in names)
    return (files, clients, rng.randint(2, 1000), rng.randint(0, 50))


def draw_step(rng):
    word = rng.choice(sorted(SHAPES))
    greatest = rng.choice([9, 999, GREAT])
    parts = [draw_name(rng) if part == "n" else rng.randint(0, greatest) for part in SHAPES[word]]
    return (word, *parts)


class TextCase(unittest.TestCase):
    def refused(self, reader, thing, line=None):
        before = copy.deepcopy(thing)
        for _ in range(2):
            with self.assertRaises(NoText) as caught:
                reader(thing)
            self.assertIs(type(caught.exception), NoText)
            self.assertEqual(caught.exception.line, line, thing)
            self.assertIs(type(caught.exception.line), type(line))
        self.assertEqual(thing, before)

    def reads(self, reader, text, expected):
        """It is read to what is due, or refused where that is None."""
        if expected is None:
            self.refused(reader, text)
        else:
            self.assertEqual(reader(text), expected, text)


class Setups(TextCase):
    def both_ways(self, setup, text):
        self.assertEqual(setup_text(setup), text)
        self.assertIs(type(setup_text(setup)), str)
        self.assertEqual(read_setup(text), setup)
        self.assertTrue(is_setup(read_setup(text)))

    def test_as_it_is_written(self):
        self.both_ways(SETUP, TEXT)

    def test_all_of_the_least_and_all_of_the_greatest(self):
        self.both_ways(LEAST, "files a:1 clients a:50:0 length 2 drift 0")
        self.both_ways(GREATEST, (
            "files aaaaaaaa:4,mm:4,zzzzzzzz:4 clients aaaaaaaa:200:99,m:200:99,n:200:99,"
            "zzzzzzzz:200:99 length 1000 drift 50"))

    def test_names_that_are_words_of_the_text(self):
        setup = ((("clients", 2), ("files", 1)), (("drift", 100, 0), ("length", 95, 7)), 10, 10)
        text = "files clients:2,files:1 clients drift:100:0,length:95:7 length 10 drift 10"
        self.both_ways(setup, text)

    def test_drawn_ones(self):
        rng = random.Random(24)
        for _ in range(500):
            setup = draw_setup(rng)
            self.assertTrue(is_setup(setup))
            self.assertEqual(read_setup(setup_text(setup)), setup)
            self.assertEqual(plain_setup(setup_text(setup)), setup)

    def test_beyond_the_bounds_of_a_setup(self):
        for one, other, fits in [
                ("home:2", "home:1", True), ("home:2", "home:4", True), ("home:2", "home:0", False),
                ("home:2", "home:5", False), ("home:2", "home:999999999999", False),
                ("ann:100", "ann:50", True), ("ann:100", "ann:200", True),
                ("ann:100", "ann:49", False), ("ann:100", "ann:201", False),
                ("100:0", "100:99", True), ("100:0", "100:100", False),
                ("length 10", "length 2", True), ("length 10", "length 1000", True),
                ("length 10", "length 0", False), ("length 10", "length 1", False),
                ("length 10", "length 1001", False), ("drift 10", "drift 0", True),
                ("drift 10", "drift 50", True), ("drift 10", "drift 51", False),
                ("home", "z", False), ("home", "log", False), ("ann", "bo", False),
                ("ann", "cy", False), ("bo", "server", False), ("bo", "serve", True),
                (",log:1", "", True), (",log:1", ",log:1,x:1", True),
                (",log:1", ",log:1,x:1,y:1", False), (",bo:95:7", "", True),
                (",bo:95:7", ",bo:95:7,c:95:7,d:95:7", True),
                (",bo:95:7", ",bo:95:7,c:95:7,d:95:7,e:95:7", False)]:
            text = TEXT.replace(one, other)
            self.assertNotEqual(text, TEXT)
            self.reads(read_setup, text, plain_setup(text))
            self.assertEqual(plain_setup(text) is not None, fits, text)

    def test_numbers(self):
        for number in NO_NUMBERS:
            for one, other in [
                    ("home:2", "home:" + number), ("ann:100", "ann:" + number),
                    ("100:0", "100:" + number), ("length 10", "length " + number),
                    ("drift 10", "drift " + number)]:
                self.refused(read_setup, TEXT.replace(one, other))
        self.refused(read_setup, TEXT.replace("95:7", "095:7"))
        self.refused(read_setup, TEXT.replace("95:7", "95:07"))
        self.refused(read_setup, TEXT.replace("100:0", "100:00"))

    def test_names(self):
        for name in NO_NAMES:
            self.refused(read_setup, TEXT.replace("home", name))
            self.refused(read_setup, TEXT.replace("ann", name))

    def test_parts_gone_or_too_many(self):
        for text in [
                "", "files", "files home:2,log:1", TEXT + " ", " " + TEXT, TEXT + "\n",
                "\n" + TEXT, TEXT + "\n" + TEXT, TEXT + " " + TEXT, TEXT.replace(" ", "  "),
                TEXT.replace(" ", "\n"), TEXT.replace(" length 10", ""), TEXT.upper(),
                TEXT.replace("ann:100:0", "ann:100"), TEXT.replace("ann:100:0", "ann:100:0:0"),
                TEXT.replace("home:2", "home"), TEXT.replace("home:2", "home:2:2"),
                TEXT.replace(",", ", "), TEXT.replace(":", " : "), TEXT.replace(",log", ",,log"),
                TEXT.replace("home", ",home"), TEXT.replace("log:1", "log:1,"),
                TEXT.replace("home:2,log:1", ""), TEXT.replace("ann:100:0,bo:95:7", ""),
                "length 10 drift 10 files home:2,log:1 clients ann:100:0,bo:95:7",
                "clients ann:100:0,bo:95:7 files home:2,log:1 length 10 drift 10",
                "files home:2,log:1 clients ann:100:0,bo:95:7 drift 10 length 10",
                "files log:1,home:2 clients ann:100:0,bo:95:7 length 10 drift 10",
                "files home:2,log:1 clients bo:95:7,ann:100:0 length 10 drift 10"]:
            self.refused(read_setup, text)

    def test_spoilt_by_a_sign(self):
        kept = 0
        for text in spoilt_by_a_sign(TEXT):
            expected = plain_setup(text)
            self.reads(read_setup, text, expected)
            if expected is not None:
                self.assertEqual(setup_text(expected), text)
                kept += 1
        self.assertGreater(kept, 100)

    def test_spoilt_by_a_word(self):
        words = ["", "files", "clients", "length", "drift", "10", "home:2", "ann:100:0", "x", "\n"]
        for text in spoilt_by_a_word(TEXT, words):
            self.reads(read_setup, text, plain_setup(text))

    def test_signs_beyond_those_told(self):
        for sign in ["\t", "\r", "\0", "%", "\x7f", "\u00e9", "\u0661", "\u00b2", "\uff11"]:
            for at in range(len(TEXT)):
                self.refused(read_setup, TEXT[:at] + sign + TEXT[at:])
                self.refused(read_setup, TEXT[:at] + sign + TEXT[at + 1:])

    def test_of_anything(self):
        for thing in [*anything(), SETUP, list(SETUP), [TEXT], (TEXT,), TEXT.encode()]:
            self.refused(read_setup, thing)

    def test_long_texts(self):
        for sign in SIGNS + list("0123456789"):
            self.refused(read_setup, sign * 10000)
        self.refused(read_setup, (TEXT + " ") * 156)
        self.refused(read_setup, "files " + "a:1," * 1000 + "b:1 clients a:50:0 length 2 drift 0")


class Steps(TextCase):
    def test_as_they_are_written(self):
        for step, text in STEPS:
            self.assertEqual(step_text(step), text)
            self.assertIs(type(step_text(step)), str)
            self.assertEqual(read_step(text), step)
            self.assertIs(type(read_step(text)), tuple)
            self.assertEqual([type(part) for part in read_step(text)], [type(part) for part in step])

    def test_each_word_is_one_of_a_step_of_a_world(self):
        self.assertEqual({step[0] for step, _ in STEPS}, set(SHAPES))

    def test_numbers_from_0_on_of_at_most_twelve_figures(self):
        for number in [0, 1, 9, 10, 999, 1000, 10 ** 11 - 1, 10 ** 11, GREAT]:
            for step in [
                    ("read", "a", "b", number), ("write", "a", "b", number, 1),
                    ("write", "a", "b", 1, number), ("pass", number), ("deliver", number),
                    ("drop", number)]:
                self.assertEqual(step_text(step), " ".join([str(part) for part in step]))
                self.assertEqual(read_step(step_text(step)), step)
        for word in NO_NUMBERS:
            for text in ["read a b ", "write a b 0 ", "pass ", "deliver ", "drop "]:
                self.refused(read_step, text + word)
            self.refused(read_step, f"write a b {word} 7")

    def test_names_of_one_to_eight_small_letters(self):
        for name in ["a", "z", "server", "abcdefgh", "read", "crash", "none", "do"]:
            for step in [
                    ("read", name, "b", 0), ("read", "a", name, 0), ("write", name, "b", 0, 1),
                    ("write", "a", name, 0, 1), ("ask", name), ("save", name, "b"),
                    ("save", "a", name), ("yield", name, "b"), ("yield", "a", name),
                    ("fall", name)]:
                self.assertEqual(read_step(step_text(step)), step)
        for name in NO_NAMES:
            for text in [
                    f"read {name} b 0", f"read a {name} 0", f"write {name} b 0 1",
                    f"write a {name} 0 1", f"ask {name}", f"save {name} b", f"save a {name}",
                    f"yield {name} b", f"yield a {name}", f"fall {name}"]:
                self.refused(read_step, text)

    def test_words_gone_or_too_many(self):
        for _, text in STEPS:
            for spoilt in [
                    text + " ", " " + text, text + "\n", "\n" + text, text + " x", text + " 0",
                    text + " " + text, text + "\n" + text, text.upper(), text.capitalize(),
                    text[:-1] + " " + text[-1]]:
                self.reads(read_step, spoilt, plain_step(spoilt))
        for text in ["", " ", "\n", "read", "read ann", "read ann home", "write ann home 0", "ask",
                     "pass", "deliver", "drop", "save ann", "yield", "fall", "crash 0", "undo",
                     "time", "next ann", "wrote ann home 0 5", "give_back ann home", "go_on 1"]:
            self.refused(read_step, text)

    def test_spoilt_by_a_sign(self):
        for _, text in STEPS:
            for spoilt in spoilt_by_a_sign(text):
                expected = plain_step(spoilt)
                self.reads(read_step, spoilt, expected)
                if expected is not None:
                    self.assertEqual(step_text(expected), spoilt)

    def test_spoilt_by_a_word(self):
        words = ["", "\n", "ann", "home", "0", "999", "00", "x1", *SHAPES]
        for _, text in STEPS:
            for spoilt in spoilt_by_a_word(text, words):
                self.reads(read_step, spoilt, plain_step(spoilt))

    def test_words_put_together_in_every_way(self):
        words = ["read", "save", "ask", "pass", "crash", "ann", "0", "12", "01", "", "A"]
        for many in range(1, 5):
            for parts in itertools.product(words, repeat=many):
                text = " ".join(parts)
                self.reads(read_step, text, plain_step(text))

    def test_signs_beyond_those_told(self):
        for sign in ["\t", "\r", "\0", "%", "\x7f", "\u00e9", "\u0661", "\u00b2", "\uff11"]:
            for _, text in STEPS:
                for at in range(len(text)):
                    self.refused(read_step, text[:at] + sign + text[at:])

    def test_drawn_ones(self):
        rng = random.Random(25)
        for _ in range(1000):
            step = draw_step(rng)
            self.assertEqual(read_step(step_text(step)), step)
            self.assertEqual(plain_step(step_text(step)), step)

    def test_of_anything(self):
        for thing in [*anything(), *[step for step, _ in STEPS], ["crash"], b"crash"]:
            self.refused(read_step, thing)


class Lines(TextCase):
    def test_as_they_are_written(self):
        steps = [step for step, _ in STEPS]
        text = "\n".join([text for _, text in STEPS])
        self.assertEqual(steps_text(steps), text)
        self.assertIs(type(steps_text(steps)), str)
        self.assertEqual(read_steps(text), steps)
        self.assertIs(type(read_steps(text)), list)
        self.assertEqual(steps_text([("pass", 1), ("crash",)]), "pass 1\ncrash")

    def test_none_and_one(self):
        self.assertEqual(steps_text([]), "")
        self.assertEqual(read_steps(""), [])
        for step, text in STEPS:
            self.assertEqual(steps_text([step]), text)
            self.assertEqual(read_steps(text), [step])

    def test_empty_lines_are_left_out(self):
        steps = [("pass", 1), ("crash",)]
        for text in [
                "pass 1\ncrash\n", "\npass 1\ncrash", "pass 1\n\ncrash", "\n\n\npass 1\n\n\ncrash\n\n"]:
            self.assertEqual(read_steps(text), steps)
        for many in [1, 2, 7, 1100, 10000]:
            self.assertEqual(read_steps("\n" * many), [])

    def test_the_first_line_that_is_none(self):
        for text, line in [
                ("x", 1), (" ", 1), ("crash x", 1), ("\nx", 2), ("\n\n\nx\n", 4), ("crash\nx", 2),
                ("crash\n\nx\ncrash", 3), ("x\ny", 1), ("crash\ncrash\npass\npass", 3),
                ("crash\n ", 2), ("crash\n \ncrash", 2), ("crash \ncrash", 1), (" crash", 1),
                ("crash\n\n\n\n\ncrash\nCrash", 7), ("\n" * 999 + "x", 1000),
                ("crash\r\ncrash", 1), ("crash\ncrash\r", 2), ("crash\x0bcrash", 1),
                ("crash\ncrash\x0ccrash", 2), ("crash\u2028crash", 1), ("crash\x1ccrash", 1),
                ("\t", 1), ("pass 1\npass 01", 2), ("pass 1\npass 1234567890123", 2),
                ("pass 1 pass 1", 1), ("pass\n1", 1)]:
            self.refused(read_steps, text, line)

    def test_each_line_spoilt(self):
        lines = [text for _, text in STEPS]
        for at in range(len(lines)):
            for word in ["x", " ", "crash ", "pass", "READ ann home 0", lines[at] + " 0"]:
                if plain_step(word) is None:
                    text = "\n".join([*lines[:at], word, *lines[at + 1:]])
                    self.refused(read_steps, text, at + 1)
                    self.refused(read_steps, "\n\n" + text, at + 3)
                    self.refused(read_steps, text.replace("\n", "\n\n"), 2 * at + 1)
                    self.refused(read_steps, text + "\nx", at + 1)

    def reads_lines(self, text):
        """By patterns, line by line."""
        steps = []
        for at, line in enumerate(text.split("\n")):
            if line and plain_step(line) is None:
                self.refused(read_steps, text, at + 1)
                return
            if line:
                steps.append(plain_step(line))
        self.assertEqual(read_steps(text), steps, text)

    def test_spoilt_by_a_sign(self):
        for text in spoilt_by_a_sign("pass 12\ncrash\nread ann home 0\nask bo"):
            self.reads_lines(text)

    def test_spoilt_by_a_word(self):
        text = "pass 12\ncrash\nread ann home 0"
        for spoilt in spoilt_by_a_word(text, ["", "\n", "crash", "x", "0", "home"]):
            self.reads_lines(spoilt)

    def test_drawn_ones(self):
        rng = random.Random(26)
        for _ in range(200):
            steps = [draw_step(rng) for _ in range(rng.randrange(9))]
            before = copy.deepcopy(steps)
            text = steps_text(steps)
            self.assertEqual(steps, before)
            self.assertEqual(read_steps(text), steps)
            self.assertEqual(read_steps(text.replace("\n", "\n\n") + "\n"), steps)

    def test_many(self):
        for many in [200, 201, 1100]:
            steps = [("pass", number) for number in range(many)]
            self.assertEqual(read_steps(steps_text(steps)), steps)
        self.assertEqual(read_steps("crash\n" * 1666), [("crash",)] * 1666)

    def test_of_anything(self):
        steps = [step for step, _ in STEPS]
        for thing in [*no_texts(), steps, tuple(steps), ["crash"], b"crash"]:
            self.refused(read_steps, thing)
        for thing in anything():
            if isinstance(thing, str) and thing.strip("\n"):
                self.refused(read_steps, thing, 1)

    def test_lists_told_are_the_askers_own(self):
        text = "pass 1\ncrash"
        first = read_steps(text)
        second = read_steps(text)
        second.clear()
        self.assertEqual(first, [("pass", 1), ("crash",)])
        self.assertEqual(read_steps(text), first)


class Interface(unittest.TestCase):
    def test_the_functions(self):
        for name, parts in [
                ("setup_text", "(setup)"), ("step_text", "(step)"), ("steps_text", "(steps)"),
                ("read_setup", "(text)"), ("read_step", "(text)"), ("read_steps", "(text)")]:
            function = getattr(texts, name)
            self.assertEqual(str(inspect.signature(function)), parts)
            self.assertEqual(function.__module__, "pagelend.texts")

    def test_by_their_names(self):
        self.assertEqual(setup_text(setup=SETUP), TEXT)
        self.assertEqual(step_text(step=("pass", 1)), "pass 1")
        self.assertEqual(steps_text(steps=[("pass", 1)]), "pass 1")
        self.assertEqual(read_setup(text=TEXT), SETUP)
        self.assertEqual(read_step(text="pass 1"), ("pass", 1))
        self.assertEqual(read_steps(text="pass 1"), [("pass", 1)])


if __name__ == "__main__":
    unittest.main()
