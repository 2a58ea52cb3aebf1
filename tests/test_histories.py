"""Histories [20, 21]."""

import copy
import inspect
import itertools
import random
import unittest

from pagelend import histories
from pagelend.histories import is_history, is_order, ordered, shows_none
from things import nested

NO_NUMBERS = [None, True, False, "", "1", [], [1], (), (1,), 1.0]


def write(task, value, begin, end):
    return (task, "write", value, begin, end)


def read(task, value, begin, end):
    return (task, "read", value, begin, end)


ROW = write(3, 5, 1, 4)
ANYTHING = [
    None, True, False, 0, 1, -1, 10 ** 60, "", "read", "x" * 10000, (), (ROW,), ROW, [()], [[]],
    [None], [0], [True], ["write"], [list(ROW)], [ROW, None], [[ROW]], [(ROW,)],
    nested(20, list), nested(20, tuple), [nested(19, tuple)], [0] * 1100, (0,) * 1100]


def is_order_by_its_sentence(history, tasks):
    rows = {row[0]: row for row in history}
    if sorted(tasks) != sorted(rows):
        return False
    for at, task in enumerate(tasks):
        for later in tasks[at + 1:]:
            if rows[later][4] < rows[task][3]:
                return False
        ahead = [rows[one][2] for one in tasks[:at] if rows[one][1] == "write"]
        if rows[task][1] == "read" and rows[task][2] != ([0] + ahead)[-1]:
            return False
    return True


def orders(history):
    tasks = [row[0] for row in history]
    return [
        list(order) for order in itertools.permutations(tasks)
        if is_order_by_its_sentence(history, order)]


def reasons_by_their_sentences(history):
    """All reasons, by going through all tuples of a word and two numbers that may be."""
    times = {0: [(-1, -1)]}
    for _, _, value, begin, end in history:
        times.setdefault(value, []).append((begin, end))
    first = {value: min(end for _, end in rows) for value, rows in times.items()}
    final = {value: max(begin for begin, _ in rows) for value, rows in times.items()}
    is_wide = {value: first[value] < final[value] for value in times}
    found = []
    for one, other in itertools.product(history, repeat=2):
        if (one[1], other[1]) == ("read", "write") and one[2] == other[2] and one[4] < other[3]:
            found.append(("early", one[0], other[0]))
    for one, other in itertools.product(times, repeat=2):
        meet = first[one] < final[other] and first[other] < final[one]
        if one < other and is_wide[one] and is_wide[other] and meet:
            found.append(("both", one, other))
        if is_wide[one] and not is_wide[other] and first[one] < final[other]:
            if final[one] > first[other]:
                found.append(("within", one, other))
    return found


def drawn_history(draw, most, span):
    many = draw.randint(most // 2, most)
    tasks = draw.sample(range(20), many)
    written = draw.sample(range(1, 5), draw.randint(1, 3 if many > 2 else 1))
    history = []
    for at, task in enumerate(tasks):
        begin = draw.randint(0, span - 1)
        end = draw.randint(begin + 1, min(span, begin + 4))
        if at < len(written):
            history.append(write(task, written[at], begin, end))
        else:
            history.append(read(task, draw.choice([0] + written), begin, end))
    draw.shuffle(history)
    return history


class IsHistory(unittest.TestCase):
    def told(self, thing, expected):
        before = copy.deepcopy(thing)
        for _ in range(2):
            self.assertIs(is_history(thing), expected, thing)
        self.assertEqual(thing, before)
        self.assertIs(is_history(thing=thing), expected)

    def part(self, at, thing, expected):
        row = ROW[:at] + (thing,) + ROW[at + 1:]
        self.told([row], expected)
        self.told([write(100, 999, 0, 9), row, read(101, 0, 0, 9)], expected)

    def test_ordinary_ones(self):
        self.told([], True)
        self.told([ROW], True)
        self.told([ROW, read(4, 5, 0, 9), read(5, 0, 0, 9)], True)

    def test_of_60_and_61_tasks(self):
        for many in [59, 60, 61, 100]:
            self.told([read(task, 0, 0, 1) for task in range(many)], many <= 60)
            self.told([write(task, task + 1, 0, 1) for task in range(many)], many <= 60)

    def test_tasks(self):
        for task in [0, 1, 10 ** 59]:
            self.part(0, task, True)
        for task in [-1, -(10 ** 59)] + NO_NUMBERS:
            self.part(0, task, False)

    def test_tasks_unlike(self):
        self.told([read(0, 0, 0, 1), read(0, 0, 0, 1)], False)
        self.told([write(0, 1, 0, 1), write(0, 2, 0, 1)], False)
        self.told([write(0, 1, 0, 1), read(1, 1, 0, 1), read(0, 1, 0, 1)], False)

    def test_kinds(self):
        for kind in ["read", "write"]:
            self.told([(0, kind, 7, 0, 1), (1, "write", 7, 0, 1)], kind == "read")
        for thing in ["", "wrote", "Read", "read ", None, 0, True, [], (), ["write"], ("write",)]:
            self.part(1, thing, False)
            self.told([(0, thing, 0, 0, 1)], False)
            self.told([(0, thing, 5, 0, 1), write(1, 5, 0, 1)], False)

    def test_values(self):
        for value in [1, 2, 998, 999]:
            self.told([write(0, value, 0, 1)], True)
            self.told([write(0, value, 0, 1), read(1, value, 0, 1)], True)
        for value in [0, -1, 1000, 10 ** 59] + NO_NUMBERS:
            self.told([write(0, value, 0, 1)], False)
        for value in [-1, 1000] + NO_NUMBERS:
            self.told([read(0, value, 0, 1)], False)
        self.told([read(0, 0, 0, 1)], True)

    def test_written_values_unlike(self):
        self.told([write(0, 5, 0, 1), write(1, 5, 2, 3)], False)
        self.told([write(0, 5, 0, 1), write(1, 6, 2, 3)], True)

    def test_each_read_has_a_write(self):
        self.told([read(0, 5, 0, 1)], False)
        self.told([read(0, 5, 0, 1), write(1, 6, 0, 1)], False)
        self.told([read(0, 5, 0, 1), write(1, 5, 0, 1)], True)
        self.told([read(0, 5, 0, 1), read(1, 5, 0, 1)], False)

    def test_begin_and_end(self):
        for begin, end, expected in [
                (0, 1, True), (0, 10 ** 6, True), (10 ** 6 - 1, 10 ** 6, True), (5, 5, False),
                (6, 5, False), (-1, 5, False), (0, 10 ** 6 + 1, False), (0, 0, False),
                (10 ** 6, 10 ** 6 + 1, False), (10 ** 6, 10 ** 6, False), (-2, -1, False)]:
            self.told([write(0, 5, begin, end)], expected)
            self.told([read(0, 0, begin, end)], expected)
        for thing in NO_NUMBERS:
            self.part(3, thing, False)
            self.part(4, thing, False)

    def test_parts_gone_or_twice(self):
        for at in range(5):
            self.told([ROW[:at] + ROW[at + 1:]], False)
            self.told([ROW[:at + 1] + ROW[at:]], False)

    def test_of_anything(self):
        for thing in ANYTHING:
            self.told(thing, False)


class IsOrder(unittest.TestCase):
    HISTORY = [write(4, 5, 0, 3), read(7, 5, 2, 6), read(2, 0, 1, 4)]

    def told(self, history, tasks, expected):
        before = copy.deepcopy((history, tasks))
        for _ in range(2):
            self.assertIs(is_order(history, tasks), expected, (history, tasks))
        self.assertIs(is_order(tasks=tasks, history=history), expected)
        self.assertEqual((history, tasks), before)

    def test_one_and_none(self):
        self.told(self.HISTORY, [2, 4, 7], True)
        for tasks in itertools.permutations([2, 4, 7]):
            self.told(self.HISTORY, list(tasks), tasks == (2, 4, 7))

    def test_of_nothing(self):
        self.told([], [], True)
        self.told([], [0], False)

    def test_each_task_once(self):
        for tasks in [
                [], [2], [2, 4], [4, 7], [2, 4, 4], [2, 4, 7, 7], [2, 2, 4, 7], [2, 4, 7, 9],
                [2, 4, 9], [-1, 4, 7], [2, 4, 10 ** 60], [2, 4, 7, -1]]:
            self.told(self.HISTORY, tasks, False)

    def test_one_that_is_over_stands_ahead(self):
        for end, expected in [(1, False), (2, False), (3, True), (4, True)]:
            history = [write(0, 5, 3, 6), read(1, 5, 0, end)]
            self.told(history, [0, 1], expected)
        history = [write(0, 1, 0, 9), write(1, 2, 5, 6), write(2, 3, 0, 4)]
        self.told(history, [1, 0, 2], False)
        self.told(history, [2, 0, 1], True)
        self.told(history, [0, 2, 1], True)

    def test_reads_of_0(self):
        history = [write(0, 5, 0, 9), read(1, 0, 0, 9), read(2, 5, 0, 9)]
        self.told(history, [1, 0, 2], True)
        self.told(history, [0, 1, 2], False)
        self.told(history, [0, 2, 1], False)

    def test_drawn_ones(self):
        draw = random.Random(20)
        said = []
        for _ in range(400):
            history = drawn_history(draw, 5, 8)
            for _ in range(12):
                tasks = [row[0] for row in history]
                draw.shuffle(tasks)
                expected = is_order_by_its_sentence(history, tasks)
                self.told(history, tasks, expected)
                said.append(expected)
        self.assertGreater(min(said.count(True), said.count(False)), 200)


class Ordered(unittest.TestCase):
    def ordered(self, history):
        """What is told of a history, which is so, and the same again."""
        self.assertTrue(is_history(history), history)
        before = copy.deepcopy(history)
        answer = ordered(history)
        self.assertIs(type(answer), tuple)
        if answer[0] == "order":
            self.assertEqual(len(answer), 2)
            self.assertIs(type(answer[1]), list)
            self.assertTrue(is_order_by_its_sentence(history, answer[1]), (history, answer))
            self.assertTrue(is_order(history, list(answer[1])))
        else:
            self.assertIn(answer, reasons_by_their_sentences(history), history)
            self.assertIs(shows_none(history, answer), True)
        self.assertEqual(ordered(history=history), answer)
        self.assertEqual(history, before)
        return answer

    def test_of_nothing(self):
        self.assertEqual(ordered([]), ("order", []))

    def test_an_order(self):
        self.assertEqual(self.ordered([write(4, 5, 0, 3), read(7, 5, 2, 6), read(2, 0, 1, 4)]), (
            "order", [2, 4, 7]))
        self.assertEqual(self.ordered([write(0, 5, 0, 1), read(1, 5, 2, 3)]), ("order", [0, 1]))

    def test_the_list_is_the_askers_own(self):
        history = [write(0, 5, 0, 1), read(1, 5, 2, 3)]
        ordered(history)[1].clear()
        self.assertEqual(ordered(history), ("order", [0, 1]))

    def test_early(self):
        self.assertEqual(self.ordered([read(8, 5, 0, 3), write(9, 5, 4, 6)]), ("early", 8, 9))
        self.assertEqual(self.ordered([read(8, 5, 0, 4), write(9, 5, 4, 6)])[0], "order")

    def test_both(self):
        history = [
            write(0, 7, 0, 1), write(1, 3, 0, 1), read(2, 7, 5, 6), read(3, 3, 5, 6)]
        self.assertEqual(self.ordered(history), ("both", 3, 7))

    def test_both_with_0(self):
        history = [write(0, 7, 0, 1), read(1, 7, 3, 4), read(2, 0, 2, 3)]
        self.assertEqual(self.ordered(history), ("both", 0, 7))

    def test_within(self):
        history = [write(0, 7, 0, 1), write(1, 3, 3, 4), read(2, 7, 6, 7)]
        self.assertEqual(self.ordered(history), ("within", 7, 3))

    def test_within_0(self):
        history = [write(0, 7, 0, 1), read(1, 0, 2, 4)]
        self.assertEqual(self.ordered(history), ("within", 0, 7))

    def test_where_they_touch_there_is_an_order(self):
        for begin, end, word in [
                (1, 6, "order"), (2, 6, "order"), (2, 5, "within"), (1, 5, "order"),
                (3, 4, "within")]:
            history = [write(0, 7, 0, 1), write(1, 3, begin, end), read(2, 7, 6, 7)]
            self.assertEqual(self.ordered(history)[0], word)
        for at, word in [(5, "both"), (6, "order"), (7, "order")]:
            history = [
                write(0, 7, 0, 1), read(1, 7, 6, 9), write(2, 3, at - 1, at), read(3, 3, 20, 21)]
            self.assertEqual(self.ordered(history)[0], word)

    def test_at_the_bounds(self):
        last = 10 ** 6
        history = [
            write(10 ** 59, 999, 0, last), read(0, 999, last - 1, last), read(1, 0, 0, 1),
            write(2, 1, last - 1, last)]
        self.assertEqual(self.ordered(history)[0], "order")
        self.assertEqual(
            self.ordered([write(0, 1, 0, 1), read(1, 0, last - 1, last)]), ("within", 0, 1))

    def test_just_where_all_orders_gone_through_have_one(self):
        draw = random.Random(21)
        words = {"order": 0, "early": 0, "both": 0, "within": 0}
        for many in range(2500):
            history = drawn_history(draw, 5 if many % 8 else 6, draw.choice([4, 8, 12]))
            answer = self.ordered(history)
            words[answer[0]] += 1
            self.assertEqual(answer[0] == "order", orders(history) != [], history)
        self.assertGreater(min(words.values()), 60, words)

    def test_a_word_told_later_only_where_none_told_earlier_can_be(self):
        draw = random.Random(22)
        words = {"order": 0, "early": 0, "both": 0, "within": 0}
        for _ in range(2500):
            history = drawn_history(draw, 10, draw.choice([6, 12, 20]))
            found = [reason[0] for reason in reasons_by_their_sentences(history)]
            answer = self.ordered(history)
            expected = [word for word in ["early", "both", "within"] if word in found] + ["order"]
            self.assertEqual(answer[0], expected[0], history)
            words[answer[0]] += 1
        self.assertGreater(min(words.values()), 60, words)

    def test_runs_of_one_store_have_an_order(self):
        # Each task is done at one moment of its time, so there is an order.
        draw = random.Random(23)
        for _ in range(200):
            value, history = 0, []
            for task in range(draw.randint(1, 60)):
                moment = 10 * task + 10
                begin, end = moment - draw.randint(0, 40), moment + draw.randint(1, 40)
                if draw.random() < 0.3:
                    value = task + 1
                    history.append(write(task, value, max(0, begin), end))
                else:
                    history.append(read(task, value, max(0, begin), end))
            draw.shuffle(history)
            self.assertEqual(self.ordered(history)[0], "order")


class ShowsNone(unittest.TestCase):
    def told(self, history, reason, expected):
        before = copy.deepcopy(history)
        for _ in range(2):
            self.assertIs(shows_none(history, reason), expected, (history, reason))
        self.assertIs(shows_none(reason=reason, history=history), expected)
        self.assertEqual(history, before)

    def test_early(self):
        history = [read(8, 5, 0, 3), write(9, 5, 4, 6), write(7, 6, 4, 6), read(6, 0, 0, 1)]
        self.told(history, ("early", 8, 9), True)
        for one, other in itertools.product([5, 6, 7, 8, 9, 0, -1, 10 ** 60], repeat=2):
            self.told(history, ("early", one, other), (one, other) == (8, 9))

    def test_early_at_the_edge(self):
        self.told([read(8, 5, 0, 4), write(9, 5, 4, 6)], ("early", 8, 9), False)

    def test_both_the_lesser_one_first(self):
        history = [
            write(0, 7, 0, 1), write(1, 3, 0, 1), read(2, 7, 5, 6), read(3, 3, 5, 6)]
        for one, other in itertools.product([0, 1, 2, 3, 7, -1, 1000], repeat=2):
            self.told(history, ("both", one, other), (one, other) == (3, 7))
            self.told(history, ("within", one, other), False)

    def test_within(self):
        history = [write(0, 7, 0, 1), write(1, 3, 3, 4), read(2, 7, 6, 7)]
        for one, other in itertools.product([0, 1, 2, 3, 7, -1, 10 ** 60], repeat=2):
            self.told(history, ("within", one, other), (one, other) == (7, 3))
            self.told(history, ("both", one, other), False)

    def test_0_without_a_read_of_it(self):
        history = [write(0, 7, 0, 1), read(1, 7, 5, 6)]
        for word in ["both", "within"]:
            for one, other in itertools.product([0, 7], repeat=2):
                self.told(history, (word, one, other), False)

    def test_of_nothing(self):
        for word in ["early", "both", "within", "order", ""]:
            for one, other in itertools.product([0, 1, -1], repeat=2):
                self.told([], (word, one, other), False)

    def test_other_words(self):
        history = [read(1, 3, 0, 1), write(3, 3, 4, 6), write(7, 7, 0, 1), read(2, 7, 6, 7)]
        self.told(history, ("early", 1, 3), True)
        for word in ["order", "", "Early", "EARLY", "early ", "none", "x" * 10000]:
            for one, other in [(1, 3), (3, 7), (7, 3), (2, 7)]:
                self.told(history, (word, one, other), False)

    def test_of_these_words_none_goes_first(self):
        # One read is early, two values are both open, and one lies within another.
        history = [
            read(1, 3, 0, 1), write(2, 3, 4, 6), write(3, 7, 0, 1), read(4, 7, 6, 7),
            write(5, 8, 2, 3)]
        found = reasons_by_their_sentences(history)
        self.assertEqual({reason[0] for reason in found}, {"early", "both", "within"})
        for reason in found:
            self.told(history, reason, True)

    def test_drawn_ones_by_their_sentences(self):
        draw = random.Random(24)
        said = {(word, truth): 0 for word in ["early", "both", "within"] for truth in [0, 1]}
        for _ in range(250):
            history = drawn_history(draw, 7, draw.choice([6, 12]))
            found = reasons_by_their_sentences(history)
            tasks = [row[0] for row in history]
            for one, other in itertools.product(tasks, repeat=2):
                expected = ("early", one, other) in found
                self.told(history, ("early", one, other), expected)
                said["early", expected] += 1
            for word in ["both", "within"]:
                for one, other in itertools.product(range(6), repeat=2):
                    expected = (word, one, other) in found
                    self.told(history, (word, one, other), expected)
                    said[word, expected] += 1
        self.assertGreater(min(said.values()), 50, said)

    def test_none_is_shown_where_there_is_an_order(self):
        draw = random.Random(25)
        for _ in range(300):
            history = drawn_history(draw, 5, 8)
            if orders(history):
                for word in ["early", "both", "within"]:
                    for one, other in itertools.product(range(20), repeat=2):
                        self.assertIs(shows_none(history, (word, one, other)), False)


class Interface(unittest.TestCase):
    def test_the_functions(self):
        for name, arguments in [
                ("is_history", "(thing)"), ("ordered", "(history)"),
                ("is_order", "(history, tasks)"), ("shows_none", "(history, reason)")]:
            asked = getattr(histories, name)
            self.assertEqual(str(inspect.signature(asked)), arguments)
            self.assertEqual(asked.__module__, "pagelend.histories")


if __name__ == "__main__":
    unittest.main()
