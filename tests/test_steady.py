import unittest

from all_waves import waves_of, waves_up_to
from refusals import refuses
from tickrows.errors import NoWave, TooLong, Unlike
from tickrows.steady import cost_of, count_steady, is_steady, number_of, steadied, steady

LEAST_SIZES = range(1, 14)


def steady_by_hand(wave, many):
    """Stretch by stretch, without the first and the last one."""
    lengths = [1]
    for ahead, level in zip(wave, wave[1:]):
        if ahead == level:
            lengths[-1] += 1
        else:
            lengths.append(1)
    return all(length >= many for length in lengths[1:-1])


def all_steady(length, many):
    return [wave for wave in waves_of(length, "01") if steady_by_hand(wave, many)]


def cost_by_hand(wave, other):
    return sum(level in "01" and level != own for level, own in zip(wave, other))


class IsSteady(unittest.TestCase):
    """[8.1]"""

    def test_inner_stretches(self):
        self.assertIs(is_steady("0110", 2), True)
        self.assertIs(is_steady("0110", 3), False)
        self.assertIs(is_steady("010", 1), True)
        self.assertIs(is_steady("010", 2), False)
        self.assertIs(is_steady("0110001110", 2), True)
        self.assertIs(is_steady("0110001110", 3), False)
        self.assertIs(is_steady("01110110", 3), False)

    def test_the_first_and_the_last_stretch_may_be_short(self):
        for wave in ("0", "1", "x", "01", "10", "0" * 12, "0" * 11 + "1", "1" + "0" * 11, "x0", "0x"):
            for many in LEAST_SIZES:
                self.assertIs(is_steady(wave, many), True)
        self.assertIs(is_steady("1" + "0" * 10 + "1", 10), True)
        self.assertIs(is_steady("1" + "0" * 10 + "1", 11), False)

    def test_stretches_of_levels_that_are_not_known(self):
        self.assertIs(is_steady("0xx1", 2), True)
        self.assertIs(is_steady("0x1", 2), False)
        self.assertIs(is_steady("01x10", 2), False)
        self.assertIs(is_steady("x1100x", 2), True)

    def test_all_short_waves(self):
        for wave in waves_up_to(6):
            for many in range(1, 8):
                self.assertIs(is_steady(wave, many), steady_by_hand(wave, many))


class CountSteady(unittest.TestCase):
    """[8.1], [0.2] (f)"""

    def test_every_length_and_every_least_size(self):
        for length in range(1, 13):
            waves = waves_of(length, "01")
            for many in LEAST_SIZES:
                expected = len([wave for wave in waves if steady_by_hand(wave, many)])
                self.assertEqual(count_steady(length, many), expected, (length, many))

    def test_some(self):
        self.assertEqual(count_steady(1, 1), 2)
        self.assertEqual(count_steady(1, 12), 2)
        self.assertEqual(count_steady(3, 1), 8)
        self.assertEqual(count_steady(3, 2), 6)
        self.assertEqual(count_steady(12, 1), 4096)
        self.assertEqual(count_steady(12, 12), 24)
        self.assertEqual(count_steady(12, 1000000), 24)

    def test_too_long(self):
        for length in (0, 13, -1, -12, 14, 100, 10 ** 9):
            for many in (1, 2, 12, 13):
                refuses(self, TooLong, count_steady, length, many)


class Steady(unittest.TestCase):
    """[8.2], [0.2] (f)"""

    def test_each_number_as_they_rise(self):
        for length in (1, 2, 3, 4, 5, 8):
            for many in LEAST_SIZES:
                expected = all_steady(length, many)
                self.assertEqual([steady(length, many, number) for number in range(len(expected))], expected)

    def test_each_number_of_the_longest_waves(self):
        for many in (2, 3, 4, 5, 10, 11, 12, 13):
            expected = all_steady(12, many)
            self.assertEqual([steady(12, many, number) for number in range(len(expected))], expected)

    def test_all_numbers_of_all_known_waves(self):
        for number in (0, 1, 2, 5, 100, 1365, 2047, 2048, 4094, 4095):
            self.assertEqual(steady(12, 1, number), bin(number)[2:].rjust(12, "0"))

    def test_below_the_first_and_behind_the_last(self):
        for length in (1, 2, 5, 12):
            for many in LEAST_SIZES:
                count = count_steady(length, many)
                self.assertEqual(steady(length, many, 0), "0" * length)
                self.assertEqual(steady(length, many, count - 1), "1" * length)
                for number in (-1, -2, -count, count, count + 1, 10 ** 9, -10 ** 9):
                    refuses(self, NoWave, steady, length, many, number)

    def test_too_long_whatever_the_number(self):
        for length in (0, 13, -1, 14, 10 ** 9):
            for number in (-1, 0, 1, 10 ** 9):
                for many in (1, 2, 13):
                    refuses(self, TooLong, steady, length, many, number)


class NumberOf(unittest.TestCase):
    """[8.2], [0.2] (f)"""

    def test_numbers_lead_to_waves_and_back(self):
        for length in (1, 2, 3, 4, 6, 9):
            for many in LEAST_SIZES:
                for number, wave in enumerate(all_steady(length, many)):
                    self.assertEqual(number_of(wave, many), number)
                    self.assertEqual(steady(length, many, number_of(wave, many)), wave)

    def test_the_longest_waves(self):
        for many in (2, 3, 5, 10, 11, 12):
            told = [number_of(wave, many) for wave in all_steady(12, many)]
            self.assertEqual(told, list(range(count_steady(12, many))))
        self.assertEqual(number_of("1" * 12, 1), 4095)
        self.assertEqual(number_of("010101010101", 1), 1365)

    def test_no_wave_where_it_is_not_steady(self):
        for wave in waves_up_to(6, "01"):
            for many in range(1, 7):
                if not steady_by_hand(wave, many):
                    refuses(self, NoWave, number_of, wave, many)
        refuses(self, NoWave, number_of, "010101010101", 2)
        refuses(self, NoWave, number_of, "1" + "0" * 10 + "1", 11)

    def test_no_wave_where_it_is_not_known(self):
        for wave in waves_up_to(4):
            if "x" in wave:
                for many in (1, 2, 5):
                    refuses(self, NoWave, number_of, wave, many)
        refuses(self, NoWave, number_of, "0" * 11 + "x", 1)


class CostOf(unittest.TestCase):
    """[8.3]"""

    def test_each_level_beside_each(self):
        told = [cost_of(wave, other) for wave in "01x" for other in "01x"]
        self.assertEqual(told, [0, 1, 1, 1, 0, 1, 0, 0, 0])

    def test_all_ticks_count(self):
        self.assertEqual(cost_of("0" * 12, "1" * 12), 12)
        self.assertEqual(cost_of("x" * 12, "01" * 6), 0)
        self.assertEqual(cost_of("01x01x", "00x1x1"), 3)
        for wave in waves_of(3):
            for other in waves_of(3):
                self.assertEqual(cost_of(wave, other), cost_by_hand(wave, other))

    def test_unlike(self):
        for one, other in (("0", "00"), ("00", "0"), ("x", "xx"), ("0" * 12, "0" * 11), ("01", "110")):
            refuses(self, Unlike, cost_of, one, other)


class Steadied(unittest.TestCase):
    """[8.3], [0.2] (f)"""

    def test_some(self):
        self.assertEqual(steadied("0110", 2), (0, "0110"))
        self.assertEqual(steadied("010", 2), (1, "000"))
        self.assertEqual(steadied("101", 2), (1, "001"))
        self.assertEqual(steadied("0101", 2), (1, "0001"))
        self.assertEqual(steadied("x", 3), (0, "0"))
        self.assertEqual(steadied("1xx1", 2), (0, "1001"))
        self.assertEqual(steadied("1xx1", 3), (0, "1111"))
        self.assertEqual(steadied("x" * 12, 4), (0, "0" * 12))

    def test_steady_known_waves_stay(self):
        for length in (1, 3, 6):
            for many in range(1, 8):
                for wave in all_steady(length, many):
                    self.assertEqual(steadied(wave, many), (0, wave))

    def test_the_least_cost_and_the_first_that_has_it_of_all_short_waves(self):
        for length in range(1, 7):
            for many in (1, 2, 3, 4, 7):
                choices = all_steady(length, many)
                for wave in waves_of(length):
                    expected = min([(cost_by_hand(wave, other), other) for other in choices])
                    self.assertEqual(steadied(wave, many), expected, (wave, many))

    def test_the_least_cost_and_the_first_that_has_it_of_long_waves(self):
        waves = ["010101010101", "101010101010", "0x1x0x1x0x1x", "x1x0x1x0x1x0", "110100101101", "001x0110x100",
                 "xxxxxx010000", "000101xxxxxx", "011011011011", "1xx0xx1xx0xx", "100000000001", "010000000010"]
        for many in range(1, 14):
            choices = all_steady(12, many)
            for wave in waves:
                expected = min([(cost_by_hand(wave, other), other) for other in choices])
                self.assertEqual(steadied(wave, many), expected, (wave, many))

    def test_what_is_told_is_as_dear_as_told(self):
        for wave in waves_of(5):
            for many in (1, 2, 3):
                told = steadied(wave, many)
                self.assertIs(type(told), tuple)
                self.assertEqual(cost_of(wave, told[1]), told[0])
                self.assertIs(is_steady(told[1], many), True)
                self.assertNotIn("x", told[1])
                self.assertEqual(len(told[1]), 5)


class BeyondTheBounds(unittest.TestCase):
    """The interface: nothing is refused for what lies somewhat beyond a bound, unless a point says so."""

    def test_least_sizes_below_1_are_always_had(self):
        for many in (0, -1, -3):
            self.assertIs(is_steady("0101", many), True)
            self.assertEqual(count_steady(5, many), 32)
            self.assertEqual(steady(5, many, 10), "01010")
            self.assertEqual(number_of("01010", many), 10)
            self.assertEqual(steadied("01x01", many), (0, "01001"))

    def test_waves_of_no_tick_and_of_more_than_12(self):
        self.assertIs(is_steady("", 2), True)
        self.assertEqual(cost_of("", ""), 0)
        self.assertEqual(steadied("", 2), (0, ""))
        self.assertIs(is_steady("0" * 13 + "1" + "0", 2), False)
        self.assertEqual(number_of("0" * 12 + "1", 1), 1)
        self.assertEqual(cost_of("0" * 13, "1" * 13), 13)
        self.assertEqual(steadied("0" * 6 + "1" + "0" * 6, 2), (1, "0" * 13))


class Kinds(unittest.TestCase):
    """[0.3]"""

    def test_kinds_of_what_is_told(self):
        self.assertIs(type(count_steady(3, 2)), int)
        self.assertIs(type(steady(3, 2, 1)), str)
        self.assertIs(type(number_of("001", 2)), int)
        self.assertIs(type(cost_of("0", "1")), int)
        self.assertEqual([type(told) for told in steadied("010", 2)], [int, str])


if __name__ == "__main__":
    unittest.main()
