import unittest
from itertools import product

from all_waves import waves_of, waves_up_to
from refusals import refuses, tells_a_new_list
from tickrows.errors import TooLong, Unlike
from tickrows.windows import all_high, changes_between, rolled, window_counts, windows

LONG_WAVES = ["0" * 12, "01" * 6, "001x" * 3, "0110" * 3, "010011010110", "00000x000000", "111111000000"]


class Windows(unittest.TestCase):
    """[15.1]"""

    def test_all_parts_from_the_first_tick_on(self):
        self.assertEqual(windows("0110x", 1), ["0", "1", "1", "0", "x"])
        self.assertEqual(windows("0110x", 2), ["01", "11", "10", "0x"])
        self.assertEqual(windows("0110x", 3), ["011", "110", "10x"])
        self.assertEqual(windows("0110x", 5), ["0110x"])
        self.assertEqual(windows("x", 1), ["x"])
        self.assertEqual(windows("01" * 6, 11), ["01010101010", "10101010101"])

    def test_all_short_and_some_long_waves(self):
        for wave in waves_up_to(5) + LONG_WAVES:
            for many in range(1, len(wave) + 1):
                told = windows(wave, many)
                self.assertEqual(len(told), len(wave) - many + 1)
                for tick, part in enumerate(told):
                    self.assertEqual(part, "".join([wave[tick + more] for more in range(many)]))

    def test_parts_of_no_tick_and_of_one_more_than_there_are(self):
        for call in (windows, window_counts):
            for wave in waves_up_to(3) + LONG_WAVES:
                for many in (0, -1, -len(wave), len(wave) + 1, len(wave) + 2, 10 ** 9):
                    refuses(self, TooLong, call, wave, many)


class WindowCounts(unittest.TestCase):
    """[15.1]"""

    def test_rising_each_part_once(self):
        self.assertEqual(window_counts("0110x", 1), [("0", 2), ("1", 2), ("x", 1)])
        self.assertEqual(window_counts("010101", 2), [("01", 3), ("10", 2)])
        self.assertEqual(window_counts("0" * 12, 3), [("000", 10)])
        self.assertEqual(window_counts("x10x10", 2), [("0x", 1), ("10", 2), ("x1", 2)])
        self.assertEqual(window_counts("10", 2), [("10", 1)])

    def test_all_short_and_some_long_waves(self):
        for wave in waves_up_to(5) + LONG_WAVES:
            for many in range(1, len(wave) + 1):
                told = window_counts(wave, many)
                parts = [wave[tick:tick + many] for tick in range(len(wave) - many + 1)]
                self.assertEqual(told, [(part, parts.count(part)) for part in sorted(set(parts))])


class Rolled(unittest.TestCase):
    """[15.1]"""

    def test_later_and_round(self):
        self.assertEqual(rolled("0011x", 0), "0011x")
        self.assertEqual(rolled("0011x", 1), "x0011")
        self.assertEqual(rolled("0011x", 2), "1x001")
        self.assertEqual(rolled("0011x", 4), "011x0")
        self.assertEqual(rolled("x", 5), "x")

    def test_less_than_0_and_more_than_the_length(self):
        self.assertEqual(rolled("0011x", -1), "011x0")
        self.assertEqual(rolled("0011x", -4), "x0011")
        self.assertEqual(rolled("0011x", 5), "0011x")
        self.assertEqual(rolled("0011x", -5), "0011x")
        self.assertEqual(rolled("0011x", 6), "x0011")
        self.assertEqual(rolled("0011x", -6), "011x0")
        self.assertEqual(rolled("0011x", 5 * 10 ** 9 + 2), "1x001")
        self.assertEqual(rolled("0011x", -5 * 10 ** 9 + 2), "1x001")

    def test_all_short_and_some_long_waves(self):
        for wave in waves_up_to(5) + LONG_WAVES:
            length = len(wave)
            for by in range(-2 * length - 1, 2 * length + 2):
                told = rolled(wave, by)
                self.assertEqual(len(told), length)
                for tick in range(length):
                    self.assertEqual(told[(tick + by) % length], wave[tick])


class ChangesBetween(unittest.TestCase):
    """[15.1]"""

    def test_ahead_of_the_first_rise_and_from_each_rise_on(self):
        self.assertEqual(changes_between("01010101", "00010001"), [2, 4, 1])
        self.assertEqual(changes_between("00000000", "00010001"), [0, 0, 0])
        self.assertEqual(changes_between("0011", "0001"), [1, 0])
        self.assertEqual(changes_between("0001", "0001"), [0, 1])
        self.assertEqual(changes_between("0100", "0100"), [0, 2])

    def test_beats_without_a_rise(self):
        for beat in ("0000", "1111", "1000", "0x1x", "1100"):
            self.assertEqual(changes_between("0x10", beat), [3])
            self.assertEqual(changes_between("0000", beat), [0])
        self.assertEqual(changes_between("0", "0"), [0])
        self.assertEqual(changes_between("1", "1"), [0])

    def test_changes_from_and_to_levels_that_are_not_known_count(self):
        self.assertEqual(changes_between("0xx1x0", "000100"), [1, 3])

    def test_all_short_waves(self):
        for wave in waves_of(4):
            for beat in waves_of(4):
                told = [0]
                for tick in range(1, 4):
                    if beat[tick - 1:tick + 1] == "01":
                        told.append(0)
                    told[-1] += wave[tick] != wave[tick - 1]
                self.assertEqual(changes_between(wave, beat), told)

    def test_unlike(self):
        for wave, beat in (("0", "01"), ("01", "0"), ("0" * 12, "0" * 11), ("x", "xx"), ("00", "111")):
            refuses(self, Unlike, changes_between, wave, beat)


class AllHigh(unittest.TestCase):
    """[15.1]"""

    def test_ticks_at_which_all_are_1(self):
        self.assertEqual(all_high(["0110"]), [1, 2])
        self.assertEqual(all_high(["0110", "1011"]), [2])
        self.assertEqual(all_high(["0110", "1001"]), [])
        self.assertEqual(all_high(["1x1", "11x"]), [0])
        self.assertEqual(all_high(["1" * 12] * 9), list(range(12)))
        self.assertEqual(all_high(["x"]), [])

    def test_all_short_waves_in_lists_and_tuples(self):
        for many, length in ((1, 3), (2, 2), (3, 1)):
            for waves in product(waves_of(length), repeat=many):
                expected = [tick for tick in range(length) if {wave[tick] for wave in waves} == {"1"}]
                self.assertEqual(all_high(waves), expected)
                self.assertEqual(all_high(list(waves)), expected)

    def test_unlike(self):
        for waves in (["0", "01"], ["01", "0"], ["1", "1", "11"], ["11", "1", "11"], ["1" * 12, "1" * 11]):
            refuses(self, Unlike, all_high, waves)
            refuses(self, Unlike, all_high, tuple(waves))


class BeyondTheBounds(unittest.TestCase):
    """The interface: nothing is refused for what lies somewhat beyond a bound, unless a point says so."""

    def test_waves_of_no_tick_and_of_more_than_12(self):
        self.assertEqual(rolled("", 3), "")
        self.assertEqual(changes_between("", ""), [0])
        self.assertEqual(all_high([""]), [])
        self.assertEqual(all_high([]), [])
        refuses(self, TooLong, windows, "", 1)
        refuses(self, TooLong, windows, "", 0)
        self.assertEqual(windows("0" * 13, 13), ["0" * 13])
        self.assertEqual(rolled("0" * 13 + "1", 1), "1" + "0" * 13)


class ToldAnew(unittest.TestCase):
    """[0.3]"""

    def test_told_lists_are_new_ones(self):
        for many in (1, 2, 4):
            tells_a_new_list(self, windows, "0x01", many)
            tells_a_new_list(self, window_counts, "0x01", many)
        tells_a_new_list(self, changes_between, "0101", "0010")
        tells_a_new_list(self, changes_between, "0101", "0000")
        tells_a_new_list(self, all_high, ["0110", "1111"])
        tells_a_new_list(self, all_high, ["0000"])

    def test_handed_in_lists_are_not_changed(self):
        waves = ["0110", "1x11"]
        all_high(waves)
        self.assertEqual(waves, ["0110", "1x11"])

    def test_kinds_of_what_is_told(self):
        self.assertEqual([type(part) for part in windows("01", 1)], [str, str])
        row, = window_counts("00", 1)
        self.assertEqual([type(row), type(row[0]), type(row[1])], [tuple, str, int])
        self.assertIs(type(rolled("01", 1)), str)
        self.assertEqual([type(number) for number in changes_between("01", "01")], [int, int])
        self.assertEqual([type(tick) for tick in all_high(["11"])], [int, int])


if __name__ == "__main__":
    unittest.main()
