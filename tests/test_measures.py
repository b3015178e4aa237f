import unittest

from all_waves import waves_of, waves_up_to
from refusals import refuses, tells_a_new_list
from tickrows.errors import Unlike
from tickrows.measures import distance, longest, nearest_turn, periods, tally

UNLIKE_PAIRS = [("0", "01"), ("01", "0"), ("0" * 12, "0" * 11), ("x", "xx"), ("1", "0" * 12), ("00", "111")]
LONG_WAVES = ["0" * 12, "01" * 6, "001" * 4, "0110" * 3, "x01x01x01x01", "010011010110", "00000x000000", "111111000000"]


class Tally(unittest.TestCase):
    """[10.1]"""

    def test_tally(self):
        self.assertEqual(tally("0"), (1, 0, 0))
        self.assertEqual(tally("1"), (0, 1, 0))
        self.assertEqual(tally("x"), (0, 0, 1))
        self.assertEqual(tally("01x1xx"), (1, 2, 3))
        self.assertEqual(tally("0" * 12), (12, 0, 0))
        self.assertEqual(tally("000001111xxx"), (5, 4, 3))
        self.assertIs(type(tally("0")), tuple)

    def test_all_short_waves(self):
        for wave in waves_up_to(5):
            self.assertEqual(tally(wave), tuple(sum(level == own for own in wave) for level in "01x"))


class Longest(unittest.TestCase):
    """[10.1]"""

    def test_the_first_of_the_longest_ones(self):
        self.assertEqual(longest("0110011", "1"), (1, 2))
        self.assertEqual(longest("0110011", "0"), (3, 2))
        self.assertEqual(longest("010110", "1"), (3, 2))
        self.assertEqual(longest("0110010", "1"), (1, 2))
        self.assertEqual(longest("xx0xx1xxx", "x"), (6, 3))
        self.assertEqual(longest("0101", "0"), (0, 1))

    def test_at_the_wave_s_beginning_and_end(self):
        self.assertEqual(longest("1101", "1"), (0, 2))
        self.assertEqual(longest("1011", "1"), (2, 2))
        self.assertEqual(longest("0" * 12, "0"), (0, 12))
        self.assertEqual(longest("x", "x"), (0, 1))
        self.assertEqual(longest("0" * 11 + "1", "1"), (11, 1))

    def test_none_of_a_level_that_the_wave_has_not(self):
        self.assertIsNone(longest("0", "1"))
        self.assertIsNone(longest("01" * 6, "x"))
        self.assertIsNone(longest("1x1x", "0"))

    def test_all_short_waves(self):
        for wave in waves_up_to(6):
            for level in "01x":
                self.assertEqual(longest(wave, level), self.longest_by_hand(wave, level))

    def longest_by_hand(self, wave, level):
        for many in range(len(wave), 0, -1):
            for tick in range(len(wave) - many + 1):
                if wave[tick:tick + many] == level * many:
                    return (tick, many)
        return None


class Distance(unittest.TestCase):
    """[10.1]"""

    def test_unlike_signs(self):
        self.assertEqual(distance("01x", "01x"), 0)
        self.assertEqual(distance("01x", "0x1"), 2)
        self.assertEqual(distance("0", "x"), 1)
        self.assertEqual(distance("x", "0"), 1)
        self.assertEqual(distance("0" * 12, "1" * 12), 12)
        self.assertEqual(distance("0" * 11 + "1", "0" * 12), 1)
        self.assertEqual(distance("1" + "0" * 11, "0" * 12), 1)

    def test_all_short_waves(self):
        for one in waves_of(3):
            for other in waves_of(3):
                self.assertEqual(distance(one, other), sum(first != second for first, second in zip(one, other)))

    def test_unlike(self):
        for one, other in UNLIKE_PAIRS:
            refuses(self, Unlike, distance, one, other)


class Periods(unittest.TestCase):
    """[10.1]"""

    def test_periods(self):
        self.assertEqual(periods("0"), [1])
        self.assertEqual(periods("00"), [1, 2])
        self.assertEqual(periods("01"), [2])
        self.assertEqual(periods("0101"), [2, 4])
        self.assertEqual(periods("01010"), [2, 4, 5])
        self.assertEqual(periods("01001"), [3, 5])
        self.assertEqual(periods("0" * 12), list(range(1, 13)))
        self.assertEqual(periods("0" * 11 + "1"), [12])
        self.assertEqual(periods("x0x0"), [2, 4])
        self.assertEqual(periods("0x00"), [3, 4])

    def test_all_short_and_some_long_waves(self):
        for wave in waves_up_to(6) + LONG_WAVES:
            length = len(wave)
            expected = [many for many in range(1, length + 1)
                        if all(wave[tick] == wave[tick + many] for tick in range(length - many))]
            self.assertEqual(periods(wave), expected)


class NearestTurn(unittest.TestCase):
    """[10.1]"""

    def test_first_ticks_put_behind_all_others(self):
        self.assertEqual(nearest_turn("0111", "0111"), 0)
        self.assertEqual(nearest_turn("0111", "1110"), 1)
        self.assertEqual(nearest_turn("0111", "1101"), 2)
        self.assertEqual(nearest_turn("0111", "1011"), 3)
        self.assertEqual(nearest_turn("100000000000", "010000000000"), 11)
        self.assertEqual(nearest_turn("010000000000", "100000000000"), 1)

    def test_the_least_of_those_with_the_same_distance(self):
        self.assertEqual(nearest_turn("0101", "0101"), 0)
        self.assertEqual(nearest_turn("0101", "1010"), 1)
        self.assertEqual(nearest_turn("0" * 12, "1" * 12), 0)
        self.assertEqual(nearest_turn("0" * 12, "x" * 12), 0)
        self.assertEqual(nearest_turn("0011", "0101"), 0)
        self.assertEqual(nearest_turn("0", "1"), 0)

    def test_levels_that_are_not_known_are_signs_too(self):
        self.assertEqual(nearest_turn("x00", "00x"), 1)
        self.assertEqual(nearest_turn("0x1", "1x1"), 0)
        self.assertEqual(nearest_turn("00x", "x11"), 2)

    def test_all_short_waves(self):
        for one in waves_of(4):
            for other in waves_of(4):
                distances = [sum(one[(tick + turn) % 4] != other[tick] for tick in range(4)) for turn in range(4)]
                self.assertEqual(nearest_turn(one, other), distances.index(min(distances)))

    def test_long_waves(self):
        for one in LONG_WAVES:
            for other in LONG_WAVES:
                distances = [sum(one[(tick + turn) % 12] != other[tick] for tick in range(12)) for turn in range(12)]
                self.assertEqual(nearest_turn(one, other), distances.index(min(distances)))

    def test_unlike(self):
        for one, other in UNLIKE_PAIRS:
            refuses(self, Unlike, nearest_turn, one, other)


class BeyondTheBounds(unittest.TestCase):
    """The interface: nothing is refused for what lies somewhat beyond a bound, unless a point says so."""

    def test_waves_of_no_tick(self):
        self.assertEqual(tally(""), (0, 0, 0))
        self.assertIsNone(longest("", "0"))
        self.assertEqual(distance("", ""), 0)
        self.assertEqual(periods(""), [])
        self.assertEqual(nearest_turn("", ""), 0)
        refuses(self, Unlike, distance, "", "0")
        refuses(self, Unlike, nearest_turn, "", "0")

    def test_waves_of_more_than_12_ticks(self):
        self.assertEqual(tally("0" * 13 + "1"), (13, 1, 0))
        self.assertEqual(longest("1" + "0" * 13, "0"), (1, 13))
        self.assertEqual(distance("0" * 13, "1" * 13), 13)
        self.assertEqual(periods("0" * 13)[-1], 13)
        self.assertEqual(nearest_turn("1" + "0" * 13, "0" + "1" + "0" * 12), 13)


class ToldAnew(unittest.TestCase):
    """[0.3]"""

    def test_told_lists_are_new_ones(self):
        for wave in ("0", "0101", "xx", "01x"):
            tells_a_new_list(self, periods, wave)

    def test_kinds_of_what_is_told(self):
        self.assertEqual([type(many) for many in tally("01")], [int] * 3)
        self.assertIs(type(longest("01", "1")), tuple)
        self.assertEqual([type(many) for many in periods("00")], [int, int])
        self.assertIs(type(distance("0", "1")), int)
        self.assertIs(type(nearest_turn("01", "10")), int)


if __name__ == "__main__":
    unittest.main()
