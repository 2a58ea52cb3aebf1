"""Logs [19]."""

import copy
import inspect
import random
import unittest

from pagelend import logs
from pagelend.logs import first_stale, is_log, truth
from things import nested

ROW = (3, "wrote", 2, "ann", "home", 1, 7)
NO_NUMBERS = [None, True, False, "", "0", [], [0], (), (0,), 1.0]
NO_NAMES = ["", "Ann", "abcdefghi", "a b", "a\n", "a1", None, 0, True, [], ["ann"], ("ann",)]
ANYTHING = [
    None, True, False, 0, 1, -1, 10 ** 60, "", "began", "x" * 10000, (), (ROW,), ROW, [()], [[]],
    [None], [0], [True], ["wrote"], [list(ROW)], [ROW, None], [ROW, list(ROW)], [[ROW]], [(ROW,)],
    nested(20, list), nested(20, tuple), [nested(19, tuple)], [0] * 1100, (0,) * 1100]


def with_part(at, thing):
    return ROW[:at] + (thing,) + ROW[at + 1:]


def wrote(task, value, file="home", page=0):
    return (0, "wrote", task, "ann", file, page, value)


def read(task, value, file="home", page=0):
    return (0, "read", task, "bo", file, page, value)


def lost(task, file="home", page=0):
    return (0, "lost", task, "ann", file, page, 1)


class IsLog(unittest.TestCase):
    def told(self, thing, expected):
        before = copy.deepcopy(thing)
        for _ in range(2):
            self.assertIs(is_log(thing), expected, thing)
        self.assertEqual(thing, before)
        self.assertIs(is_log(thing=thing), expected)

    def part(self, at, thing, expected):
        self.told([with_part(at, thing)], expected)
        self.told([ROW, with_part(at, thing), ROW], expected)

    def test_ordinary_ones(self):
        self.told([], True)
        self.told([ROW], True)
        self.told([ROW, ROW], True)

    def test_of_1000_and_1001_rows(self):
        for many in [999, 1000, 1001, 1100]:
            self.told([ROW] * many, many <= 1000)

    def test_in_any_order(self):
        self.told([lost(4), read(9, 5), wrote(4, 5), (0, "began", 4, "cy", "x", 0, None)], True)
        self.told([with_part(0, 9), with_part(0, 3), with_part(0, 5)], True)

    def test_times_and_tasks(self):
        for at in [0, 2]:
            for number in [0, 1, 10 ** 59, -1, -(10 ** 59)]:
                self.part(at, number, number >= 0)
            for thing in NO_NUMBERS:
                self.part(at, thing, False)

    def test_words(self):
        for word in ["began", "read", "wrote", "lost"]:
            self.part(1, word, True)
        for thing in [
                "", "Began", "write", "done", "began ", None, 0, True, [], (), ["read"],
                ("read",), "readwrote"]:
            self.part(1, thing, False)

    def test_clients_and_files(self):
        for at in [3, 4]:
            for name in ["a", "z", "abcdefgh", "server", "home", "ann"]:
                self.part(at, name, True)
            for thing in NO_NAMES:
                self.part(at, thing, False)

    def test_pages(self):
        for page in [-1, 0, 1, 2, 3, 4, 10 ** 59]:
            self.part(5, page, 0 <= page <= 3)
        for thing in NO_NUMBERS:
            self.part(5, thing, False)

    def test_values(self):
        for word in ["began", "read", "wrote", "lost"]:
            for value in [0, 1, -1, 999, 1000, 10 ** 59, -(10 ** 59)]:
                self.told([(0, word, 0, "ann", "home", 0, value)], True)
            self.told([(0, word, 0, "ann", "home", 0, None)], word == "began")
            for thing in NO_NUMBERS[1:]:
                self.told([(0, word, 0, "ann", "home", 0, thing)], False)

    def test_parts_gone_or_twice(self):
        for at in range(7):
            self.told([ROW[:at] + ROW[at + 1:]], False)
            self.told([ROW[:at + 1] + ROW[at:]], False)

    def test_of_anything(self):
        for thing in ANYTHING:
            self.told(thing, False)

    def test_one_wrong_row_at_any_place(self):
        for at in [0, 1, 500, 999]:
            rows = [ROW] * 1000
            rows[at] = with_part(1, "write")
            self.told(rows, False)


class Truth(unittest.TestCase):
    def told(self, log, expected, file="home", page=0):
        before = list(log)
        self.assertEqual(truth(log, file, page), expected)
        self.assertEqual(truth(page=page, log=log, file=file), expected)
        self.assertEqual(log, before)

    def test_0_without_a_write(self):
        self.told([], 0)
        self.told([read(0, 5), lost(1), (0, "began", 2, "ann", "home", 0, 9)], 0)

    def test_the_last_one(self):
        self.told([wrote(0, 5)], 5)
        self.told([wrote(0, 5), wrote(1, 6)], 6)
        self.told([wrote(1, 6), wrote(0, 5)], 5)
        self.told([wrote(0, 5), (0, "began", 1, "ann", "home", 0, 6), read(2, 7)], 5)

    def test_of_its_page_alone(self):
        log = [wrote(0, 5), wrote(1, 6, page=1), wrote(2, 7, file="log")]
        self.told(log, 5)
        self.told(log, 6, page=1)
        self.told(log, 7, file="log")
        self.told(log, 0, file="x")
        self.told(log, 0, page=3)
        self.told(log, 0, page=-1)
        self.told(log, 0, file="")

    def test_those_lost_do_not_count(self):
        self.told([wrote(0, 5), wrote(1, 6), lost(1)], 5)
        self.told([wrote(0, 5), wrote(1, 6), lost(0)], 6)
        self.told([wrote(0, 5), wrote(1, 6), lost(0), lost(1)], 0)
        self.told([lost(1), wrote(0, 5), wrote(1, 6)], 5)

    def test_lost_by_the_task_whatever_else_the_row_has(self):
        self.told([wrote(0, 5), wrote(1, 6), lost(1, file="log", page=3)], 5)
        self.told([wrote(0, 5), wrote(1, 6), (9, "lost", 1, "cy", "x", 2, 8)], 5)

    def test_values_that_are_nought_or_less(self):
        self.told([wrote(0, 5), wrote(1, 0)], 0)
        self.told([wrote(0, 5), wrote(1, -3)], -3)

    def test_times_do_not_count(self):
        self.told([(9, "wrote", 0, "ann", "home", 0, 5), (3, "wrote", 1, "bo", "home", 0, 6)], 6)


class FirstStale(unittest.TestCase):
    def told(self, log, expected):
        before = list(log)
        for _ in range(2):
            self.assertEqual(first_stale(log), expected)
        self.assertEqual(first_stale(log=log), expected)
        self.assertEqual(log, before)

    def test_none(self):
        self.told([], None)
        self.told([wrote(0, 5), read(1, 5)], None)
        self.told([read(0, 0), wrote(1, 5), read(2, 5), wrote(3, 6), read(4, 6)], None)
        self.told([wrote(0, 5)], None)

    def test_the_first_one(self):
        self.told([wrote(0, 5), read(1, 0), read(2, 5)], 1)
        self.told([wrote(0, 5), read(2, 5), read(1, 4), read(3, 0)], 1)
        self.told([read(7, 1)], 7)
        self.told([read(0, 1)], 0)
        self.told([read(9, 5), wrote(0, 5), read(1, 4)], 9)

    def test_rows_behind_do_not_count(self):
        self.told([read(0, 5), wrote(1, 5)], 0)
        self.told([wrote(0, 5), read(1, 0), lost(0)], 1)
        self.told([wrote(0, 5), read(1, 5), lost(0)], None)

    def test_rows_ahead_that_are_lost(self):
        self.told([wrote(0, 5), lost(0), read(1, 5)], 1)
        self.told([wrote(0, 5), lost(0), read(1, 0)], None)
        self.told([wrote(0, 4), wrote(1, 5), read(2, 5), lost(1), read(3, 4)], None)
        self.told([wrote(0, 4), wrote(1, 5), read(2, 5), lost(1), read(3, 5)], 3)
        self.told([lost(1), wrote(0, 4), wrote(1, 5), read(2, 4)], None)
        self.told([wrote(0, 4), wrote(1, 5), lost(0), read(2, 5)], None)

    def test_of_its_page_alone(self):
        self.told([wrote(0, 5, page=1), read(1, 0), read(2, 5, page=1)], None)
        self.told([wrote(0, 5, file="log"), read(1, 5)], 1)

    def test_drawn_logs_by_the_sentence_itself(self):
        draw = random.Random(19)
        told = []
        for _ in range(600):
            log = []
            for _ in range(draw.randint(0, 14)):
                word = draw.choice(["began", "read", "read", "wrote", "wrote", "lost"])
                file, page = draw.choice(["home", "log"]), draw.randint(0, 1)
                log.append((0, word, draw.randint(0, 5), "ann", file, page, draw.randint(0, 2)))
            stale = None
            for at, row in enumerate(log):
                if row[1] == "read" and row[6] != truth(log[:at], row[4], row[5]):
                    stale = row[2]
                    break
            self.told(log, stale)
            told.append(stale)
        self.assertGreater(told.count(None), 50)
        self.assertGreater(len(told) - told.count(None), 50)

    def test_of_1000_rows(self):
        log = [wrote(at, at) for at in range(499)] + [lost(at) for at in range(1, 499)]
        self.told(log + [read(2000, 0), read(3000, 498), read(4000, 497)], 3000)


class Interface(unittest.TestCase):
    def test_the_functions(self):
        for name, arguments in [
                ("is_log", "(thing)"), ("truth", "(log, file, page)"), ("first_stale", "(log)")]:
            asked = getattr(logs, name)
            self.assertEqual(str(inspect.signature(asked)), arguments)
            self.assertEqual(asked.__module__, "pagelend.logs")


if __name__ == "__main__":
    unittest.main()
