import unittest

from pagelend.kinds import (
    are_unlike, is_name, is_number, is_rising, is_tuple, is_whole, is_within)

NO_NUMBERS = [True, False, None, "", "1", [], [1], (), (1,), 1.0]


class WholeNumbers(unittest.TestCase):
    def test_ints_are_whole_numbers(self):
        for thing in [0, 1, -1, 10 ** 60, -(10 ** 60)]:
            self.assertIs(is_whole(thing), True)

    def test_truths_and_all_else_are_none(self):
        for thing in NO_NUMBERS:
            self.assertIs(is_whole(thing), False)

    def test_numbers_are_whole_ones_from_0_on(self):
        for thing in [0, 1, 999, 10 ** 60]:
            self.assertIs(is_number(thing), True)
        for thing in [-1, -(10 ** 60)] + NO_NUMBERS:
            self.assertIs(is_number(thing), False)

    def test_within_takes_both_ends(self):
        told = [is_within(k, 0, 2) for k in [-1, 0, 1, 2, 3]]
        self.assertEqual(told, [False, True, True, True, False])

    def test_nothing_else_is_within(self):
        for thing in NO_NUMBERS:
            self.assertIs(is_within(thing, 0, 2), False)


class Names(unittest.TestCase):
    def test_one_to_eight_small_letters(self):
        for thing in ["a", "z", "server", "home", "abcdefgh", "stuvwxyz", "zzzzzzzz"]:
            self.assertIs(is_name(thing), True, thing)

    def test_every_small_letter_and_no_other_sign(self):
        for code in [10] + list(range(32, 127)) + [181, 223, 228, 246, 252, 1072]:
            small = 97 <= code <= 122
            for thing in [chr(code), "a" + chr(code), chr(code) + "a"]:
                self.assertIs(is_name(thing), small, thing)

    def test_too_short_and_too_long(self):
        for thing in ["", "abcdefghi", "a" * 10000]:
            self.assertIs(is_name(thing), False)

    def test_all_else_is_no_name(self):
        for thing in [0, 97, True, None, ["a"], ("a",), [], (), b"a"]:
            self.assertIs(is_name(thing), False)


class Tuples(unittest.TestCase):
    def test_a_tuple_of_so_many(self):
        told = [is_tuple((0,) * k, 1, 3) for k in range(5)]
        self.assertEqual(told, [False, True, True, True, False])

    def test_nothing_else(self):
        for thing in [[1, 2], "ab", 12, True, None]:
            self.assertIs(is_tuple(thing, 2, 2), False)

    def test_rising_is_in_order_and_none_twice(self):
        for things in [[], ["b"], ["a", "b"], ["a", "ab", "b"], [1, 2, 9]]:
            self.assertIs(is_rising(things), True)
        for things in [["b", "a"], ["a", "a"], ["a", "c", "b"], ["b", "a", "c"], ["a", "b", "b"]]:
            self.assertIs(is_rising(things), False)

    def test_unlike_are_numbers_none_of_which_is_there_twice(self):
        for numbers in [[], [1], [1, 2], [2, 1, 10 ** 60]]:
            self.assertIs(are_unlike(numbers), True)
        for numbers in [[1, 1], [1, 2, 1], [2, 10 ** 60, 10 ** 60]]:
            self.assertIs(are_unlike(numbers), False)


if __name__ == "__main__":
    unittest.main()
