import unittest

from all_waves import all_that_it_can_be, waves_of, waves_up_to
from refusals import refuses, tells_a_new_list
from tickrows.clocks import beats, clock, counted, held, let_by, sampled
from tickrows.errors import TooLong, Unlike

UNLIKE_PAIRS = [("0", "01"), ("01", "0"), ("0" * 12, "0" * 11), ("x", "xx"), ("1", "0" * 12), ("00", "010")]


def rises_by_hand(beat):
    return [tick for tick in range(1, len(beat)) if beat[tick - 1:tick + 1] == "01"]


class Clock(unittest.TestCase):
    """[3.1]"""

    def test_one_tick_of_each_level(self):
        self.assertEqual(clock(1, 1, 0, 5), "01010")
        self.assertEqual(clock(1, 1, 1, 5), "10101")

    def test_longer_rounds(self):
        self.assertEqual(clock(2, 1, 0, 7), "0010010")
        self.assertEqual(clock(1, 2, 0, 7), "0110110")
        self.assertEqual(clock(3, 2, 0, 12), "000110001100")
        self.assertEqual(clock(2, 3, 0, 12), "001110011100")

    def test_first_is_any_tick_of_the_round(self):
        told = [clock(2, 3, first, 6) for first in range(5)]
        self.assertEqual(told, ["001110", "011100", "111001", "110011", "100111"])

    def test_first_beyond_the_round(self):
        self.assertEqual(clock(2, 3, 5, 6), "001110")
        self.assertEqual(clock(2, 3, 6, 6), "011100")
        self.assertEqual(clock(2, 3, 14, 6), "100111")
        self.assertEqual(clock(2, 1, 3 * 10 ** 30 + 2, 4), "1001")

    def test_the_round_is_longer_than_the_wave(self):
        self.assertEqual(clock(12, 1, 0, 12), "0" * 12)
        self.assertEqual(clock(12, 1, 1, 12), "0" * 11 + "1")
        self.assertEqual(clock(1, 12, 1, 12), "1" * 12)
        self.assertEqual(clock(10 ** 30, 10 ** 30, 10 ** 30 - 3, 6), "000111")
        self.assertEqual(clock(10 ** 30, 10 ** 30, 2 * 10 ** 30 - 3, 6), "111000")

    def test_against_rounds_written_out(self):
        for low in range(1, 5):
            for high in range(1, 5):
                rounds = ("0" * low + "1" * high) * 40
                for first in range(2 * (low + high) + 2):
                    for many in range(1, 13):
                        self.assertEqual(clock(low, high, first, many), rounds[first:first + many])

    def test_too_long_with_low_or_high_less_than_1(self):
        for low, high in ((0, 1), (1, 0), (0, 0), (-1, 1), (1, -1), (-1, 3), (3, -1), (0, 12), (12, 0), (-5, -5)):
            for first in (0, 1, 2):
                for many in (1, 4, 12):
                    refuses(self, TooLong, clock, low, high, first, many)

    def test_too_long_with_no_tick_and_with_more_than_12(self):
        for many in (0, -1, -13, 13, 14, 100, 10 ** 30):
            for low, high, first in ((1, 1, 0), (3, 2, 4), (12, 12, 100)):
                refuses(self, TooLong, clock, low, high, first, many)
        refuses(self, TooLong, clock, 0, 0, 0, 0)
        refuses(self, TooLong, clock, 0, 1, 0, 13)


class Beats(unittest.TestCase):
    """[3.1]"""

    def test_no_rise_and_one(self):
        for beat in ("0", "1", "x", "0000", "1110", "0111", "0100", "1001", "x1x1", "0x1x01", "000000000001"):
            with self.subTest(beat=beat):
                self.assertEqual(beats(beat), [])

    def test_several_rises(self):
        self.assertEqual(beats("0101"), [2])
        self.assertEqual(beats("01001"), [3])
        self.assertEqual(beats("010101010101"), [2, 2, 2, 2, 2])
        self.assertEqual(beats("101001000101"), [3, 4, 2])
        self.assertEqual(beats("010000000001"), [10])

    def test_x_beside_a_level_makes_no_rise(self):
        self.assertEqual(beats("01x101"), [4])
        self.assertEqual(beats("010x1001"), [6])
        self.assertEqual(beats("0x10x1"), [])

    def test_all_short_beats(self):
        for beat in waves_up_to(7):
            marks = rises_by_hand(beat)
            expected = [marks[place] - marks[place - 1] for place in range(1, len(marks))]
            self.assertEqual(beats(beat), expected)


class Sampled(unittest.TestCase):
    """[3.2]"""

    def test_levels_right_ahead_of_rises(self):
        self.assertEqual(sampled("01x100", "000101"), "x0")
        self.assertEqual(sampled("011001", "010101"), "010")
        self.assertEqual(sampled("111000111000", "010101010101"), "110110")

    def test_rise_at_tick_1_and_at_the_last_one(self):
        self.assertEqual(sampled("10", "01"), "1")
        self.assertEqual(sampled("x0", "01"), "x")
        self.assertEqual(sampled("010", "011"), "0")
        self.assertEqual(sampled("00000000001x", "000000000001"), "1")

    def test_without_a_rise_it_is_empty(self):
        for beat in ("0000", "1111", "1100", "xxxx", "0x1x", "x1x1", "1x10"):
            with self.subTest(beat=beat):
                self.assertEqual(sampled("01x1", beat), "")
        self.assertEqual(sampled("1", "1"), "")

    def test_all_short_waves_and_beats(self):
        for beat in waves_of(4):
            for wave in waves_of(4):
                expected = "".join([wave[tick - 1] for tick in rises_by_hand(beat)])
                self.assertEqual(sampled(wave, beat), expected)

    def test_unlike(self):
        for wave, beat in UNLIKE_PAIRS:
            refuses(self, Unlike, sampled, wave, beat)


class Held(unittest.TestCase):
    """[3.2], [0.2] (c)"""

    def test_from_each_rise_on(self):
        self.assertEqual(held("011001", "010101", "x"), "x00110")
        self.assertEqual(held("101x01", "001001", "1"), "110000")
        self.assertEqual(held("101x01", "000010", "1"), "1111xx")

    def test_rise_at_tick_1_and_at_the_last_one(self):
        self.assertEqual(held("10", "01", "0"), "01")
        self.assertEqual(held("100", "011", "0"), "011")
        self.assertEqual(held("00000000001x", "000000000001", "0"), "000000000001")

    def test_without_a_rise_it_stays_first(self):
        for first in "01x":
            for beat in ("0000", "1111", "1100", "xxxx", "0x1x", "x1x1", "1x10"):
                with self.subTest(first=first, beat=beat):
                    self.assertEqual(held("01x1", beat, first), first * 4)
            self.assertEqual(held("1", "1", first), first)

    def test_with_each_level_first(self):
        self.assertEqual([held("0110", "0001", first) for first in "01x"], ["0001", "1111", "xxx1"])

    def test_x_in_the_wave_and_in_the_beat(self):
        self.assertEqual(held("x1x0", "0101", "0"), "0xxx")
        self.assertEqual(held("1111", "0x01", "0"), "0001")
        self.assertEqual(held("1111", "01x1", "0"), "0111")

    def test_all_short_waves_and_beats(self):
        for beat in waves_of(4):
            marks = rises_by_hand(beat)
            for wave in waves_of(4):
                for first in "01x":
                    told = held(wave, beat, first)
                    expected = ""
                    for tick in range(4):
                        past = [mark for mark in marks if mark <= tick]
                        expected += wave[past[-1] - 1] if past else first
                    self.assertEqual(told, expected)

    def test_it_changes_only_at_rises(self):
        for beat in waves_of(5):
            marks = rises_by_hand(beat)
            for wave in ("01x10", "10101", "x0x1x", "0x01x", "11010"):
                for first in "01x":
                    told = held(wave, beat, first)
                    self.assertEqual(len(told), 5)
                    self.assertEqual(told[0], first)
                    changed = [tick for tick in range(1, 5) if told[tick] != told[tick - 1]]
                    self.assertEqual([tick for tick in changed if tick not in marks], [])

    def test_it_hangs_only_on_what_was_right_ahead_of_rises(self):
        for beat in waves_of(5) + ["010011010100"]:
            ahead = [tick - 1 for tick in rises_by_hand(beat)]
            wave = "01x1010x1001"[:len(beat)]
            for level in "01x":
                other = "".join([wave[tick] if tick in ahead else level for tick in range(len(beat))])
                self.assertEqual(held(other, beat, "x"), held(wave, beat, "x"))
            for tick in range(len(beat)):
                for level in "01x":
                    other = wave[:tick] + level + wave[tick + 1:]
                    same = held(other, beat, "0") == held(wave, beat, "0")
                    self.assertEqual(same, tick not in ahead or level == wave[tick])

    def test_unlike(self):
        for wave, beat in UNLIKE_PAIRS:
            for first in "01x":
                refuses(self, Unlike, held, wave, beat, first)


class LetBy(unittest.TestCase):
    """[3.2], [0.2] (b)"""

    def test_gate_of_1_and_of_0(self):
        self.assertEqual(let_by("01x10", "11111", "1"), "01x10")
        self.assertEqual(let_by("01x10", "00000", "1"), "11111")
        self.assertEqual(let_by("011010", "100101", "x"), "000000")
        self.assertEqual(let_by("011010", "010100", "x"), "x11000")
        self.assertEqual(let_by("01x10x", "001001", "0"), "00xxxx")

    def test_at_a_0_it_has_what_it_had_itself_not_what_the_wave_had(self):
        self.assertEqual(let_by("1010", "1000", "0"), "1111")
        self.assertEqual(let_by("0101", "1000", "1"), "0000")

    def test_with_each_level_first(self):
        self.assertEqual([let_by("11", "01", first) for first in "01x"], ["01", "11", "x1"])
        self.assertEqual([let_by("0", "x", first) for first in "01x"], ["0", "x", "x"])
        self.assertEqual([let_by("1", "x", first) for first in "01x"], ["x", "1", "x"])
        self.assertEqual([let_by("x", "x", first) for first in "01x"], ["x", "x", "x"])

    def test_gate_that_is_not_known(self):
        self.assertEqual(let_by("1100", "1x00", "0"), "1111")
        self.assertEqual(let_by("1000", "1xx0", "0"), "1xxx")
        self.assertEqual(let_by("1001", "1x11", "0"), "1x01")
        self.assertEqual(let_by("0x00", "1xx1", "0"), "0xx0")

    def test_every_level_beside_every_other_one(self):
        chosen = {}
        for own in "01x":
            for level in "01x":
                for gate in "01x":
                    told = let_by(own + level, "1" + gate, "x")
                    chosen[(own, level, gate)] = told[1]
                    self.assertEqual(told[0], own)
                    self.assertEqual(let_by(level, gate, own), told[1])
        for (own, level, gate), told in chosen.items():
            expected = {"1": level, "0": own, "x": own if own == level else "x"}
            self.assertEqual(told, expected[gate])

    def test_known_just_where_it_is_the_same_whatever_unknown_levels_are(self):
        for wave in waves_of(3):
            for gate in waves_of(3):
                for first in "01x":
                    told = [let_by(known, way, level) for known in all_that_it_can_be(wave)
                            for way in all_that_it_can_be(gate) for level in all_that_it_can_be(first)]
                    seen = [{each[tick] for each in told} for tick in range(3)]
                    expected = "".join([levels.pop() if len(levels) == 1 else "x" for levels in seen])
                    self.assertEqual(let_by(wave, gate, first), expected)

    def test_waves_of_twelve_ticks(self):
        self.assertEqual(let_by("01" * 6, "1" + "0" * 10 + "1", "x"), "0" * 11 + "1")

    def test_unlike(self):
        for wave, gate in UNLIKE_PAIRS:
            for first in "01x":
                refuses(self, Unlike, let_by, wave, gate, first)


class Counted(unittest.TestCase):
    """[3.3]"""

    def test_one_wave(self):
        self.assertEqual(counted("0101", 1), ["0110"])
        self.assertEqual(counted("1101", 1), ["0001"])
        self.assertEqual(counted("0", 1), ["0"])

    def test_more_waves(self):
        self.assertEqual(counted("01010101", 2), ["01100110", "00011110"])
        self.assertEqual(counted("0101", 3), ["0110", "0001", "0000"])
        self.assertEqual(counted("010101010101", 3), ["011001100110", "000111100001", "000000011111"])

    def test_what_is_more_is_left_out(self):
        self.assertEqual(counted("010101010101", 1), ["011001100110"])
        self.assertEqual(counted("010101010101", 2), ["011001100110", "000111100001"])

    def test_more_waves_than_are_needed(self):
        self.assertEqual(counted("01", 40), ["01"] + ["00"] * 39)

    def test_without_a_rise(self):
        for beat in ("0000", "1111", "1100", "xxxx", "0x1x", "x1x1", "1x10"):
            self.assertEqual(counted(beat, 3), ["0000"] * 3)

    def test_x_beside_a_level_makes_no_rise(self):
        self.assertEqual(counted("0x101x01", 2), ["00001110", "00000001"])

    def test_numbers_are_those_of_the_rises_there_were(self):
        for beat in waves_up_to(6) + ["010101010101", "001101000101", "0101x1010101"]:
            for many in range(1, 5):
                told = counted(beat, many)
                self.assertEqual(len(told), many)
                for wave in told:
                    self.assertEqual(len(wave), len(beat))
                for tick in range(len(beat)):
                    number = sum([2 ** place for place in range(many) if told[place][tick] == "1"])
                    so_many = len([mark for mark in rises_by_hand(beat) if mark <= tick])
                    self.assertEqual(number, so_many % 2 ** many)


class BeyondTheBounds(unittest.TestCase):
    """The interface: nothing is refused for what lies somewhat beyond a bound, unless a point says so."""

    def test_waves_of_no_tick(self):
        self.assertEqual(beats(""), [])
        self.assertEqual(sampled("", ""), "")
        self.assertEqual(held("", "", "0"), "")
        self.assertEqual(let_by("", "", "0"), "")
        self.assertEqual(counted("", 2), ["", ""])

    def test_waves_of_more_than_12_ticks(self):
        beat = "01" * 7
        self.assertEqual(beats(beat), [2] * 6)
        self.assertEqual(sampled("1" * 14, beat), "1" * 7)
        self.assertEqual(held("1" * 14, beat, "0"), "0" + "1" * 13)
        self.assertEqual(let_by("1" * 14, beat, "0"), "0" + "1" * 13)
        self.assertEqual(counted("0" * 12 + "1", 1), ["0" * 12 + "1"])


class ToldAnew(unittest.TestCase):
    """[0.3]"""

    def test_told_lists_are_new_ones(self):
        for beat in ("010101010101", "0011", "0"):
            tells_a_new_list(self, beats, beat)
            tells_a_new_list(self, counted, beat, 3)

    def test_kinds_of_what_is_told(self):
        for told in (clock(1, 1, 0, 3), sampled("01", "01"), sampled("0", "0"), held("01", "01", "x"),
                     let_by("01", "01", "x")):
            self.assertIs(type(told), str)
        self.assertEqual([type(number) for number in beats("0101")], [int])
        self.assertEqual([type(wave) for wave in counted("0101", 2)], [str, str])


if __name__ == "__main__":
    unittest.main()
