import copy
import inspect
import itertools
import unittest

from pagelend import setups
from pagelend.errors import NoSetup
from pagelend.setups import DRIFT, LENGTH, MOST, is_setup, made
from things import nested

FILES = (("home", 2), ("log", 1))
CLIENTS = (("ann", 100, 0), ("bo", 95, 7))
SETUP = (FILES, CLIENTS, 10, 10)
ANYTHING = [
    None, True, False, 0, 1, -1, 2, 10 ** 60, -(10 ** 60), "", "a", "home", "server",
    "files home:2 clients ann:100:0 length 10 drift 10", "x" * 10000, [], (), [[]],
    ((),), [()], ([],), [None], (None,), (True, False), ("home", 2), ["home", 2],
    ("ann", 100, 0), FILES, CLIENTS, (FILES, CLIENTS), (FILES, CLIENTS, 10),
    ((), (), 10, 10), (1, 2, 3, 4), "abcd", ("a", "b", "c", "d"),
    (None, None, None, None), ([], [], [], []), ((), (), (), ()),
    [0] * 1100, (0,) * 1100, nested(20, list), nested(20, tuple),
    (nested(18, tuple), nested(18, list), 10, 10),
]
NO_NUMBERS = [None, True, False, "", "2", "60", (), (2,), [], [60], 60.0]
NO_NAMES = [
    "", "abcdefghi", "Home", "hOme", "h1", "a b", " a", "a ", "a\n", "a-b", "a_b", "a:b",
    "h.me", None, True, 0, 7, (), ("a",), [], ["a"], b"a",
]


def with_file(row):
    return ((row,), CLIENTS, 10, 10)


def with_client(row):
    return (FILES, (row,), 10, 10)


class Told(unittest.TestCase):
    def told(self, thing, expected):
        before = copy.deepcopy(thing)
        self.assertIs(is_setup(thing), expected, thing)
        self.assertEqual(thing, before)
        self.assertIs(is_setup(thing), expected, thing)

    def told_made(self, thing, expected):
        """The same is said by made, where there are four things."""
        self.told(thing, expected)
        files, clients, length, drift = thing
        if expected:
            self.assertEqual(made(files, clients, length=length, drift=drift), thing)
        else:
            with self.assertRaises(NoSetup):
                made(files, clients, length=length, drift=drift)


class IsSetup(Told):
    def test_ordinary_ones(self):
        self.told_made(SETUP, True)
        self.told_made(((("home", 1),), (("ann", 100, 0),), 20, 10), True)

    def test_one_to_three_files(self):
        rows = (("a", 1), ("b", 2), ("c", 3), ("d", 4))
        for many in range(5):
            self.told_made((rows[:many], CLIENTS, 10, 10), 1 <= many <= 3)

    def test_one_to_four_clients(self):
        rows = tuple((name, 100, 0) for name in "abcde")
        for many in range(6):
            self.told_made((FILES, rows[:many], 10, 10), 1 <= many <= 4)

    def test_all_of_the_least_and_all_of_the_greatest(self):
        files = tuple((name, 4) for name in ["aaaaaaaa", "mm", "zzzzzzzz"])
        clients = tuple((name, 200, 99) for name in ["aaaaaaaa", "m", "n", "zzzzzzzz"])
        self.told_made((files, clients, 1000, 50), True)
        self.told_made(((("a", 1),), (("a", 50, 0),), 2, 0), True)

    def test_pages(self):
        for pages in [-1, 0, 1, 2, 3, 4, 5, 10 ** 60]:
            self.told_made(with_file(("home", pages)), 1 <= pages <= 4)

    def test_rate(self):
        for rate in [-100, 0, 1, 49, 50, 51, 100, 199, 200, 201, 10 ** 60]:
            self.told_made(with_client(("ann", rate, 0)), 50 <= rate <= 200)

    def test_ahead(self):
        for ahead in [-(10 ** 60), -1, 0, 1, 98, 99, 100, 10 ** 60]:
            self.told_made(with_client(("ann", 100, ahead)), 0 <= ahead <= 99)

    def test_length(self):
        for length in [-2, 0, 1, 2, 3, 999, 1000, 1001, 10 ** 60]:
            self.told_made((FILES, CLIENTS, length, 10), 2 <= length <= 1000)

    def test_drift(self):
        for drift in [-50, -1, 0, 1, 49, 50, 51, 100, 10 ** 60]:
            self.told_made((FILES, CLIENTS, 10, drift), 0 <= drift <= 50)

    def test_names(self):
        for name in ["a", "z", "home", "abcdefgh", "zzzzzzzz"]:
            self.told_made(with_file((name, 1)), True)
            self.told_made(with_client((name, 100, 0)), True)

    def test_no_names(self):
        for name in NO_NAMES:
            self.told_made(with_file((name, 1)), False)
            self.told_made(with_client((name, 100, 0)), False)
            self.told_made(((("a", 1), (name, 1)), CLIENTS, 10, 10), False)
            self.told_made((FILES, (("a", 100, 0), (name, 100, 0)), 10, 10), False)

    def test_a_client_is_not_called_server(self):
        self.told_made(with_client(("server", 100, 0)), False)
        self.told_made((FILES, (("ann", 100, 0), ("server", 100, 0)), 10, 10), False)
        self.told_made((FILES, (("server", 100, 0), ("tom", 100, 0)), 10, 10), False)
        for name in ["serve", "servers", "aserver"]:
            self.told_made(with_client((name, 100, 0)), True)

    def test_a_file_may_be_called_server(self):
        self.told_made(with_file(("server", 1)), True)

    def test_a_file_and_a_client_may_have_one_name(self):
        self.told_made(((("ann", 1),), (("ann", 100, 0),), 10, 10), True)

    def test_names_rise(self):
        for names in itertools.product("abc", repeat=3):
            rising = names == ("a", "b", "c")
            self.told_made((tuple((n, 1) for n in names), CLIENTS, 10, 10), rising)
            rows = tuple((n, 100, 0) for n in names)
            self.told_made((FILES, rows, 10, 10), rising)
            self.told_made((FILES, rows + (("d", 100, 0),), 10, 10), rising)

    def test_names_rise_as_in_python(self):
        for names, rising in [(("a", "ab"), True), (("ab", "b"), True), (("b", "ab"), False)]:
            self.told_made((tuple((n, 1) for n in names), CLIENTS, 10, 10), rising)
            self.told_made((FILES, tuple((n, 100, 0) for n in names), 10, 10), rising)

    def test_one_name_twice_with_other_numbers(self):
        self.told_made(((("home", 1), ("home", 2)), CLIENTS, 10, 10), False)
        self.told_made((FILES, (("ann", 100, 0), ("ann", 101, 1)), 10, 10), False)

    def test_numbers_of_another_kind(self):
        for thing in NO_NUMBERS:
            self.told_made(with_file(("home", thing)), False)
            self.told_made(with_client(("ann", thing, 0)), False)
            self.told_made(with_client(("ann", 100, thing)), False)
            self.told_made((FILES, CLIENTS, thing, 10), False)
            self.told_made((FILES, CLIENTS, 10, thing), False)

    def test_lists_in_the_place_of_tuples(self):
        self.told(list(SETUP), False)
        self.told_made((list(FILES), CLIENTS, 10, 10), False)
        self.told_made((FILES, list(CLIENTS), 10, 10), False)
        self.told_made(with_file(["home", 2]), False)
        self.told_made(with_client(["ann", 100, 0]), False)
        self.told_made(((("a", 1), ["b", 1]), CLIENTS, 10, 10), False)
        self.told_made((FILES, (("a", 100, 0), ["b", 100, 0]), 10, 10), False)

    def test_parts_gone_or_twice(self):
        for at in range(4):
            self.told(SETUP[:at] + SETUP[at + 1:], False)
            self.told(SETUP[:at + 1] + SETUP[at:], False)
        for row in [(), ("home",), (2,), ("home", 2, 2), ("home", "home", 2), (2, "home")]:
            self.told_made(with_file(row), False)
        for row in [("ann",), ("ann", 100), (100, 0), ("ann", 100, 0, 0), (100, "ann", 0), ()]:
            self.told_made(with_client(row), False)

    def test_parts_in_another_order(self):
        for parts in itertools.permutations(SETUP[:3] + (11,)):
            self.told(parts, parts[:2] == SETUP[:2])

    def test_parts_of_another_kind(self):
        for thing in ANYTHING:
            if thing not in (FILES, CLIENTS):
                self.told_made((thing, CLIENTS, 10, 10), False)
                self.told_made((FILES, thing, 10, 10), False)
            if thing != ("home", 2):
                self.told_made(with_file(thing), False)
            if thing != ("ann", 100, 0):
                self.told_made(with_client(thing), False)
        self.told_made((CLIENTS, FILES, 10, 10), False)

    def test_of_anything(self):
        for thing in ANYTHING:
            self.told(thing, False)
            self.told([thing], False)
            self.told((thing,), False)
        self.told((SETUP,), False)
        self.told([SETUP], False)

    def test_by_name(self):
        self.assertIs(is_setup(thing=SETUP), True)
        self.assertIs(is_setup(thing=None), False)


class Made(Told):
    def test_length_and_drift_left_out(self):
        self.assertEqual(made(FILES, CLIENTS), (FILES, CLIENTS, 20, 10))
        self.assertEqual(made(FILES, CLIENTS, length=9), (FILES, CLIENTS, 9, 10))
        self.assertEqual(made(FILES, CLIENTS, drift=9), (FILES, CLIENTS, 20, 9))

    def test_handed_in_in_either_order(self):
        setup = (FILES, CLIENTS, 30, 5)
        self.assertEqual(made(FILES, CLIENTS, length=30, drift=5), setup)
        self.assertEqual(made(FILES, CLIENTS, drift=5, length=30), setup)

    def test_all_by_names(self):
        setup = (FILES, CLIENTS, 30, 5)
        self.assertEqual(made(drift=5, clients=CLIENTS, length=30, files=FILES), setup)
        self.assertEqual(made(clients=CLIENTS, files=FILES), (FILES, CLIENTS, 20, 10))
        self.assertEqual(made(FILES, clients=CLIENTS), (FILES, CLIENTS, 20, 10))

    def test_what_comes_is_a_tuple_and_a_setup(self):
        setup = made(FILES, CLIENTS)
        self.assertIs(type(setup), tuple)
        self.assertIs(is_setup(setup), True)

    def test_length_and_drift_go_by_their_names_alone(self):
        self.assertRaises(TypeError, made, FILES, CLIENTS, 20)
        self.assertRaises(TypeError, made, FILES, CLIENTS, 20, 10)
        self.assertRaises(TypeError, made, FILES)

    def test_refused_of_anything(self):
        for one, other in itertools.product(ANYTHING, repeat=2):
            if (one, other) != (FILES, CLIENTS):
                self.assertRaises(NoSetup, made, one, other)
                self.assertRaises(NoSetup, made, one, other, length=other, drift=one)

    def test_none_is_not_as_left_out(self):
        self.assertRaises(NoSetup, made, FILES, CLIENTS, length=None)
        self.assertRaises(NoSetup, made, FILES, CLIENTS, drift=None)

    def test_what_is_refused_is_not_changed(self):
        files = [["home", 2], ("log", [1])]
        clients = [["ann", 100, 0]]
        before = copy.deepcopy((files, clients))
        self.assertRaises(NoSetup, made, files, clients, length=[2], drift=[])
        self.assertEqual((files, clients), before)


class Interface(unittest.TestCase):
    def test_the_numbers(self):
        self.assertEqual((LENGTH, DRIFT, MOST), (20, 10, 300))
        for number in [LENGTH, DRIFT, MOST]:
            self.assertIs(type(number), int)

    def test_the_functions(self):
        self.assertEqual(str(inspect.signature(is_setup)), "(thing)")
        self.assertEqual(
            str(inspect.signature(made)), "(files, clients, *, length=20, drift=10)")
        for name in ["is_setup", "made"]:
            self.assertEqual(getattr(setups, name).__module__, "pagelend.setups")


if __name__ == "__main__":
    unittest.main()
