import unittest

from all_waves import all_that_it_can_be, waves_of, waves_up_to
from refusals import refuses, tells_a_new_list
from tickrows.errors import Clash, TooLong, Unlike
from tickrows.unknown import all_known, clashing, fits, found, in_common, led_together

UNLIKE_PAIRS = [("0", "01"), ("01", "0"), ("0" * 12, "0" * 11), ("x", "xx"), ("xx", "x"), ("1", "0" * 12),
                ("00", "111"), ("x" * 12, "x")]


class Fits(unittest.TestCase):
    """[4.1]"""

    def test_each_level_beside_each(self):
        told = [fits(one, other) for one in "01x" for other in "01x"]
        self.assertEqual(told, [True, False, False, False, True, False, True, True, True])

    def test_all_ticks_must_be_the_same(self):
        self.assertIs(fits("0x1", "001"), True)
        self.assertIs(fits("0x1", "011"), True)
        self.assertIs(fits("0x1", "0x1"), True)
        self.assertIs(fits("0x1", "000"), False)
        self.assertIs(fits("0x1", "101"), False)
        self.assertIs(fits("0x1", "0xx"), False)
        self.assertIs(fits("x" * 12, "01x" * 4), True)
        self.assertIs(fits("x" * 11 + "1", "0" * 12), False)
        self.assertIs(fits("1" + "x" * 11, "0" * 12), False)

    def test_all_short_waves(self):
        for one in waves_of(3):
            for other in waves_of(3):
                wrong = [tick for tick in range(3) if one[tick] in "01" and one[tick] != other[tick]]
                self.assertIs(fits(one, other), wrong == [])

    def test_unlike(self):
        for one, other in UNLIKE_PAIRS:
            refuses(self, Unlike, fits, one, other)


class AllKnown(unittest.TestCase):
    """[4.1]"""

    def test_without_x(self):
        for wave in waves_up_to(4, "01") + ["011010011100"]:
            self.assertEqual(all_known(wave), [wave])

    def test_with_some(self):
        self.assertEqual(all_known("x"), ["0", "1"])
        self.assertEqual(all_known("0x1"), ["001", "011"])
        self.assertEqual(all_known("x0x"), ["000", "001", "100", "101"])
        self.assertEqual(all_known("1xx0"), ["1000", "1010", "1100", "1110"])

    def test_just_those_that_it_fits_rising(self):
        for wave in waves_up_to(6):
            told = all_known(wave)
            self.assertEqual(told, [known for known in waves_of(len(wave), "01") if fits(wave, known)])
            self.assertEqual(told, sorted(set(all_that_it_can_be(wave))))

    def test_six_unknown_levels(self):
        for wave in ("xxxxxx", "xxxxxx000000", "111111xxxxxx", "0x1x0x1x0x1x", "xxx1001xxx"):
            with self.subTest(wave=wave):
                told = all_known(wave)
                self.assertEqual(len(told), 64)
                self.assertEqual(told, sorted(set(all_that_it_can_be(wave))))

    def test_too_long_with_seven_and_more(self):
        for wave in ("xxxxxxx", "xxxxxxx00000", "11111xxxxxxx", "x0x1x0x1x0xx", "x" * 8, "x" * 12):
            refuses(self, TooLong, all_known, wave)


class Clashing(unittest.TestCase):
    """[4.2]"""

    def test_clashing(self):
        self.assertEqual(clashing("01x", "01x"), [])
        self.assertEqual(clashing("000111xxx", "01x01x01x"), [1, 3])
        self.assertEqual(clashing("0", "1"), [0])
        self.assertEqual(clashing("1", "0"), [0])
        self.assertEqual(clashing("0" * 12, "1" * 12), list(range(12)))
        self.assertEqual(clashing("x" * 12, "01" * 6), [])
        self.assertEqual(clashing("01" * 6, "0" * 11 + "x"), [1, 3, 5, 7, 9])

    def test_all_short_waves(self):
        for one in waves_of(3):
            for other in waves_of(3):
                expected = [tick for tick in range(3) if {one[tick], other[tick]} == {"0", "1"}]
                self.assertEqual(clashing(one, other), expected)

    def test_unlike(self):
        for one, other in UNLIKE_PAIRS:
            refuses(self, Unlike, clashing, one, other)


class LedTogether(unittest.TestCase):
    """[4.2], [0.2] (d)"""

    def test_each_level_that_one_knows(self):
        self.assertEqual(led_together("01xxx", "xx01x"), "0101x")
        self.assertEqual(led_together("01x", "01x"), "01x")
        self.assertEqual(led_together("x" * 12, "01x" * 4), "01x" * 4)
        self.assertEqual(led_together("01x" * 4, "x" * 12), "01x" * 4)

    def test_a_wave_can_be_just_what_both_can_be(self):
        for one in waves_up_to(3):
            for other in waves_of(len(one)):
                common = set(all_that_it_can_be(one)) & set(all_that_it_can_be(other))
                if common:
                    told = led_together(one, other)
                    self.assertEqual(set(all_that_it_can_be(told)), common)
                    self.assertEqual(all_known(told), sorted(common))
                else:
                    refuses(self, Clash, led_together, one, other)

    def test_clash_just_where_some_tick_clashes(self):
        for one in waves_of(3):
            for other in waves_of(3):
                if any({one[tick], other[tick]} == {"0", "1"} for tick in range(3)):
                    refuses(self, Clash, led_together, one, other)
                else:
                    led_together(one, other)

    def test_clash_at_the_first_and_the_last_tick(self):
        refuses(self, Clash, led_together, "0" + "x" * 11, "1" + "x" * 11)
        refuses(self, Clash, led_together, "x" * 11 + "1", "x" * 11 + "0")

    def test_unlike_also_where_ticks_clash(self):
        for one, other in UNLIKE_PAIRS:
            refuses(self, Unlike, led_together, one, other)


class InCommon(unittest.TestCase):
    """[4.2], [0.2] (d)"""

    def test_each_level_that_is_the_same(self):
        self.assertEqual(in_common("000111xxx", "01x01x01x"), "0xxx1xxxx")
        self.assertEqual(in_common("01x", "01x"), "01x")
        self.assertEqual(in_common("01" * 6, "0" * 12), "0x" * 6)

    def test_it_can_be_all_that_either_can_be(self):
        for one in waves_up_to(3):
            for other in waves_of(len(one)):
                told = set(all_that_it_can_be(in_common(one, other)))
                self.assertLessEqual(set(all_that_it_can_be(one)), told)
                self.assertLessEqual(set(all_that_it_can_be(other)), told)

    def test_no_level_is_lost_that_both_tell(self):
        for one in waves_of(3):
            for other in waves_of(3):
                expected = "".join([one[tick] if one[tick] == other[tick] else "x" for tick in range(3)])
                self.assertEqual(in_common(one, other), expected)

    def test_unlike(self):
        for one, other in UNLIKE_PAIRS:
            refuses(self, Unlike, in_common, one, other)


class Found(unittest.TestCase):
    """[4.3]"""

    def test_at_the_first_and_the_last_tick_where_it_can_be(self):
        self.assertEqual(found("01", "0110"), [0])
        self.assertEqual(found("10", "0110"), [2])
        self.assertEqual(found("01", "010001"), [0, 4])
        self.assertEqual(found("1", "1" + "0" * 10 + "1"), [0, 11])

    def test_overlapping(self):
        self.assertEqual(found("00", "0000"), [0, 1, 2])
        self.assertEqual(found("010", "0101010"), [0, 2, 4])
        self.assertEqual(found("x1", "1111"), [0, 1, 2])

    def test_x_in_the_pattern_and_in_the_wave(self):
        self.assertEqual(found("x", "01x"), [0, 1, 2])
        self.assertEqual(found("0", "0x0"), [0, 2])
        self.assertEqual(found("0x1", "0x10011"), [0, 3, 4])
        self.assertEqual(found("0x1", "0x1"), [0])
        self.assertEqual(found("01", "xx"), [])
        self.assertEqual(found("xx", "01x"), [0, 1])

    def test_as_long_as_the_wave(self):
        self.assertEqual(found("01x1", "0101"), [0])
        self.assertEqual(found("01x1", "1101"), [])
        self.assertEqual(found("x" * 12, "0" * 12), [0])

    def test_longer_than_the_wave(self):
        for pattern, wave in (("00", "0"), ("xx", "x"), ("x" * 12, "x" * 11), ("0" * 12, "0"), ("010", "01")):
            with self.subTest(pattern=pattern, wave=wave):
                self.assertEqual(found(pattern, wave), [])

    def test_nowhere(self):
        self.assertEqual(found("1", "000"), [])
        self.assertEqual(found("11", "0101010101"), [])

    def test_all_short_patterns(self):
        for pattern in waves_up_to(3):
            for wave in waves_up_to(4):
                expected = []
                for tick in range(len(wave) - len(pattern) + 1):
                    there = wave[tick:tick + len(pattern)]
                    if all(sign == "x" or sign == level for sign, level in zip(pattern, there)):
                        expected.append(tick)
                self.assertEqual(found(pattern, wave), expected)


class BeyondTheBounds(unittest.TestCase):
    """The interface: nothing is refused for what lies somewhat beyond a bound, unless a point says so."""

    def test_waves_of_no_tick(self):
        self.assertIs(fits("", ""), True)
        self.assertEqual(all_known(""), [""])
        self.assertEqual(clashing("", ""), [])
        self.assertEqual(led_together("", ""), "")
        self.assertEqual(in_common("", ""), "")
        self.assertEqual(found("0", ""), [])
        self.assertEqual(found("", "01"), [0, 1])

    def test_waves_of_more_than_12_ticks(self):
        self.assertIs(fits("x" * 14, "0" * 14), True)
        self.assertEqual(all_known("0" * 13 + "x"), ["0" * 14, "0" * 13 + "1"])
        self.assertEqual(clashing("0" * 13, "0" * 12 + "1"), [12])
        self.assertEqual(led_together("0" * 13, "x" * 13), "0" * 13)
        self.assertEqual(in_common("0" * 13, "x" * 13), "x" * 13)
        self.assertEqual(found("1", "0" * 12 + "1"), [12])


class ToldAnew(unittest.TestCase):
    """[0.3]"""

    def test_told_lists_are_new_ones(self):
        for wave in ("x01x", "01", "x", "0x0"):
            tells_a_new_list(self, all_known, wave)
            tells_a_new_list(self, clashing, wave, "1" * len(wave))
            tells_a_new_list(self, found, "x", wave)
            tells_a_new_list(self, found, "x" * 12, wave)

    def test_kinds_of_what_is_told(self):
        self.assertEqual([type(wave) for wave in all_known("0x")], [str, str])
        self.assertEqual([type(tick) for tick in clashing("01", "10")], [int, int])
        self.assertEqual([type(tick) for tick in found("0", "00")], [int, int])
        self.assertIs(type(led_together("0x", "x1")), str)
        self.assertIs(type(in_common("0x", "x1")), str)


if __name__ == "__main__":
    unittest.main()
