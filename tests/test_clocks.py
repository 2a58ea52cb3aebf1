import inspect
import itertools
import unittest

from pagelend import clocks
from pagelend.clocks import first_unsafe, is_safe, is_used, last_use, shown

FAR = 10 ** 33
RATES = [50, 51, 67, 89, 90, 91, 95, 99, 100, 101, 133, 150, 199, 200]
AHEADS = [0, 1, 7, 50, 98, 99]
TERMS = [(2, 0), (2, 10), (2, 50), (3, 33), (10, 10), (20, 10), (100, 1), (1000, 0), (1000, 50)]


def clocks_and_terms():
    for rate, ahead, (length, drift) in itertools.product(RATES, AHEADS, TERMS):
        yield (rate, ahead), {"length": length, "drift": drift}


def uses(clock, asked, time, length, drift):
    """Point 5, word by word."""
    rate, ahead = clock
    at_asked = (asked * rate + ahead) // 100
    at_time = (time * rate + ahead) // 100
    return time >= asked and at_time < at_asked + length * (100 - drift) // 100


def least_unsafe(clock, length, drift, askings):
    """Go through the askings one by one."""
    for asked in range(askings):
        if uses(clock, asked, asked + length, length, drift):
            return asked
    return None


class Shown(unittest.TestCase):
    def test_at_rate_100_it_shows_the_time(self):
        for time in [0, 1, 2, 99, 100, 101, 10 ** 6, FAR]:
            self.assertEqual(shown((100, 0), time), time)
            self.assertEqual(shown((100, 99), time), time)

    def test_slower_and_faster(self):
        self.assertEqual([shown((50, 0), t) for t in range(6)], [0, 0, 1, 1, 2, 2])
        self.assertEqual([shown((200, 0), t) for t in range(4)], [0, 2, 4, 6])
        self.assertEqual([shown((95, 0), t) for t in [0, 1, 2, 20, 21]], [0, 0, 1, 19, 19])
        self.assertEqual([shown((150, 0), t) for t in range(5)], [0, 1, 3, 4, 6])

    def test_ahead(self):
        self.assertEqual([shown((50, 50), t) for t in range(5)], [0, 1, 1, 2, 2])
        self.assertEqual([shown((99, 0), 1), shown((99, 1), 1)], [0, 1])
        self.assertEqual([shown((95, 7), t) for t in [0, 1, 2, 3]], [0, 1, 1, 2])
        self.assertEqual([shown((95, 4), 1), shown((95, 5), 1)], [0, 1])

    def test_far_times(self):
        self.assertEqual(shown((50, 99), FAR), FAR // 2)
        self.assertEqual(shown((200, 99), FAR), 2 * FAR)
        self.assertEqual(shown((51, 98), FAR - 1), (51 * FAR - 51 + 98) // 100)
        self.assertEqual(shown((133, 7), FAR - 3), (133 * FAR - 399 + 7) // 100)

    def test_by_names(self):
        self.assertEqual(shown(time=4, clock=(50, 0)), 2)


class IsUsed(unittest.TestCase):
    def test_a_right_clock_uses_length_less_drift(self):
        told = [is_used((100, 0), 5, t) for t in range(30)]
        self.assertEqual(told, [5 <= t < 23 for t in range(30)])

    def test_ahead_of_the_asking_it_is_not(self):
        for clock in [(50, 0), (50, 99), (100, 0), (200, 7)]:
            for asked in [1, 2, 100, FAR]:
                self.assertIs(is_used(clock, asked, asked - 1), False)
                self.assertIs(is_used(clock, asked, 0), False)
                self.assertIs(is_used(clock, asked, asked), True)

    def test_a_slow_and_a_fast_clock(self):
        self.assertEqual([is_used((50, 0), 0, t) for t in [35, 36]], [True, False])
        self.assertEqual([is_used((50, 0), 1, t) for t in [35, 36]], [True, False])
        self.assertEqual([is_used((200, 0), 0, t) for t in [8, 9]], [True, False])
        self.assertEqual([is_used((200, 0), 7, t) for t in [15, 16]], [True, False])

    def test_length_and_drift(self):
        for length, drift, ticks in [
            (2, 0, 2), (2, 1, 1), (2, 50, 1), (3, 50, 1), (10, 10, 9), (1000, 0, 1000),
            (1000, 50, 500), (999, 50, 499), (20, 33, 13),
        ]:
            for order in [{"length": length, "drift": drift}, {"drift": drift, "length": length}]:
                self.assertIs(is_used((100, 0), 9, 9 + ticks - 1, **order), True)
                self.assertIs(is_used((100, 0), 9, 9 + ticks, **order), False)

    def test_one_of_length_and_drift(self):
        self.assertEqual([is_used((100, 0), 0, t, length=10) for t in [8, 9]], [True, False])
        self.assertEqual([is_used((100, 0), 0, t, drift=0) for t in [19, 20]], [True, False])

    def test_just_as_the_point_says(self):
        for clock, term in clocks_and_terms():
            for asked in [0, 1, 2, 17, 99, 100, 12345]:
                late = asked + term["length"] * 2
                for time in [0, asked - 1, asked, asked + 1, late - 2, late - 1, late, late + 9]:
                    if time >= 0:
                        told = is_used(clock, asked, time, **term)
                        self.assertIs(told, uses(clock, asked, time, **term))

    def test_far_times(self):
        for clock in [(50, 0), (95, 7), (100, 99), (133, 50), (200, 99)]:
            for asked in [FAR - 40, FAR - 1, FAR]:
                for time in range(asked - 2, asked + 45):
                    told = is_used(clock, asked, time)
                    self.assertIs(told, uses(clock, asked, time, 20, 10))
            self.assertIs(is_used(clock, 0, FAR), False)
            self.assertIs(is_used(clock, FAR, 0), False)

    def test_by_names(self):
        self.assertIs(is_used(time=22, asked=5, clock=(100, 0)), True)
        self.assertIs(is_used(drift=0, time=23, asked=5, length=18, clock=(100, 0)), False)


class LastUse(unittest.TestCase):
    def test_by_hand(self):
        self.assertEqual(last_use((100, 0), 0), 17)
        self.assertEqual(last_use((100, 99), 5), 22)
        self.assertEqual(last_use((50, 0), 0), 35)
        self.assertEqual(last_use((50, 0), 1), 35)
        self.assertEqual(last_use((50, 50), 0), 34)
        self.assertEqual(last_use((200, 0), 0), 8)
        self.assertEqual(last_use((200, 0), 7, length=2, drift=50), 7)
        self.assertEqual(last_use((100, 0), 3, length=1000, drift=0), 1002)

    def test_used_then_and_one_tick_later_no_more(self):
        for clock, term in clocks_and_terms():
            for asked in [0, 1, 2, 3, 49, 99, 100, 10 ** 6, FAR - 1, FAR]:
                last = last_use(clock, asked, **term)
                self.assertGreaterEqual(last, asked)
                for told in [uses, is_used]:
                    self.assertIs(told(clock, asked, last, **term), True)
                    self.assertIs(told(clock, asked, last + 1, **term), False)

    def test_the_greatest_time_of_all(self):
        for clock in itertools.product(RATES, AHEADS):
            for asked in range(12):
                times = [t for t in range(60) if uses(clock, asked, t, 20, 10)]
                self.assertEqual(last_use(clock, asked), times[-1])
                self.assertEqual(times, list(range(asked, times[-1] + 1)))

    def test_one_of_length_and_drift_by_names(self):
        self.assertEqual(last_use((100, 0), 4, length=10), 12)
        self.assertEqual(last_use((100, 0), 4, drift=0), 23)
        self.assertEqual(last_use(asked=4, drift=0, clock=(100, 0), length=10), 13)


class Safe(unittest.TestCase):
    def test_by_hand(self):
        self.assertIs(is_safe((100, 0)), True)
        self.assertIs(is_safe((90, 0)), True)
        self.assertIs(is_safe((89, 0)), False)
        self.assertIs(is_safe((50, 0)), False)
        self.assertIsNone(first_unsafe((90, 99)))
        self.assertEqual(first_unsafe((89, 0)), 0)
        self.assertEqual(first_unsafe((89, 99)), 8)
        self.assertEqual(first_unsafe((50, 0)), 0)

    def test_rates_not_less_than_100_less_drift(self):
        for drift in [0, 1, 10, 33, 50]:
            for length in [2, 3, 7, 20, 999, 1000]:
                for rate in [100 - drift, 101 - drift, 110, 200]:
                    for ahead in AHEADS:
                        term = {"length": length, "drift": drift}
                        self.assertIs(is_safe((rate, ahead), **term), True)
                        self.assertIsNone(first_unsafe((rate, ahead), **term))

    def test_slower_ones_that_are_safe_all_the_same(self):
        for clock, length, drift in [
            ((50, 0), 2, 10), ((50, 99), 2, 49), ((60, 0), 5, 21), ((75, 3), 4, 1),
        ]:
            self.assertLess(clock[0], 100 - drift)
            self.assertIs(is_safe(clock, length=length, drift=drift), True)
            self.assertIsNone(first_unsafe(clock, length=length, drift=drift))

    def test_just_below_and_far_below(self):
        for drift in [0, 10, 49]:
            for rate in [99 - drift, 50]:
                self.assertIs(is_safe((rate, 0), length=1000, drift=drift), False)
        for length in [2, 20, 100, 1000]:
            self.assertIs(is_safe((99, 0), length=length, drift=0), False)

    def test_the_least_asking_one_by_one(self):
        for clock, term in clocks_and_terms():
            expected = least_unsafe(clock, askings=250, **term)
            self.assertEqual(first_unsafe(clock, **term), expected)
            self.assertIs(is_safe(clock, **term), expected is None)

    def test_every_rate_and_ahead_for_some_terms(self):
        for rate, ahead in itertools.product(range(50, 101), range(100)):
            for length, drift in [(2, 0), (20, 10)]:
                expected = least_unsafe((rate, ahead), length, drift, 120)
                told = first_unsafe((rate, ahead), length=length, drift=drift)
                self.assertEqual(told, expected)

    def test_the_least_asking_may_be_late(self):
        told = [first_unsafe((99, ahead), length=2, drift=0) for ahead in range(100)]
        self.assertEqual(told, [max(0, ahead - 1) for ahead in range(100)])
        # Here one asking alone of each hundred is too late, for some the last one.
        told = [first_unsafe((51, ahead), length=49, drift=48) for ahead in range(100)]
        self.assertEqual(sorted(told), list(range(100)))
        self.assertEqual(told[51], 99)

    def test_a_safe_clock_uses_no_lease_at_its_length_or_later(self):
        for clock, term in clocks_and_terms():
            if is_safe(clock, **term):
                for asked in list(range(120)) + [10 ** 6 + 7, FAR - 1, FAR]:
                    self.assertLess(last_use(clock, asked, **term), asked + term["length"])

    def test_the_first_unsafe_lease_is_used_so_late_and_none_ahead_of_it(self):
        for clock, term in clocks_and_terms():
            least = first_unsafe(clock, **term)
            if least is not None:
                late = [last_use(clock, a, **term) >= a + term["length"] for a in range(least + 1)]
                self.assertEqual(late, [False] * least + [True])

    def test_one_of_length_and_drift_by_names(self):
        self.assertIs(is_safe((89, 0), drift=11), True)
        self.assertIs(is_safe((89, 0), length=2), least_unsafe((89, 0), 2, 10, 200) is None)
        self.assertEqual(first_unsafe(drift=0, clock=(99, 98), length=2), 97)
        self.assertIs(is_safe(length=2, clock=(99, 98), drift=0), False)


class Interface(unittest.TestCase):
    def test_the_functions(self):
        term = "*, length=20, drift=10)"
        for name, arguments in [
            ("shown", "(clock, time)"), ("is_used", "(clock, asked, time, " + term),
            ("last_use", "(clock, asked, " + term), ("is_safe", "(clock, " + term),
            ("first_unsafe", "(clock, " + term),
        ]:
            told = getattr(clocks, name)
            self.assertEqual(str(inspect.signature(told)), arguments)
            self.assertEqual(told.__module__, "pagelend.clocks")

    def test_length_and_drift_go_by_their_names_alone(self):
        self.assertRaises(TypeError, is_used, (100, 0), 1, 2, 20)
        self.assertRaises(TypeError, last_use, (100, 0), 1, 20)
        self.assertRaises(TypeError, is_safe, (100, 0), 20)
        self.assertRaises(TypeError, first_unsafe, (100, 0), 20)

    def test_kinds_of_values(self):
        self.assertIs(type(shown((95, 7), 3)), int)
        self.assertIs(type(last_use((95, 7), 3)), int)
        self.assertIs(type(first_unsafe((50, 0))), int)


if __name__ == "__main__":
    unittest.main()
