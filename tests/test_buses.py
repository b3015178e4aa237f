import unittest
from itertools import product

from all_waves import all_that_it_can_be, waves_of
from refusals import refuses, tells_a_new_list
from tickrows.buses import of_values, value_bounds, value_changes, values_of
from tickrows.errors import NoWave, TooLong, Unlike

UNLIKE_LISTS = [["0", "01"], ["01", "0"], ["0", "0", "01"], ["01", "0", "01"], ["0" * 12, "0" * 11], ["x", "xx", "x"],
                ["0"] * 5 + ["00"], ["x" * 12] + ["x"] * 5]
SIX = ["010101", "001100", "000011", "100000", "011111", "000001"]


def values_by_hand(waves):
    """Each tick's levels written as digits, the last wave's first."""
    told = []
    for levels in zip(*reversed(waves)):
        told.append(None if "x" in levels else int("".join(levels), 2))
    return told


def bounds_by_hand(waves):
    told = []
    for levels in zip(*reversed(waves)):
        numbers = [int(known, 2) for known in all_that_it_can_be(levels)]
        told.append((min(numbers), max(numbers)))
    return told


def lists_of_waves():
    for many, length in ((1, 3), (2, 2), (3, 1)):
        yield from product(waves_of(length), repeat=many)


class ValuesOf(unittest.TestCase):
    """[14.1]"""

    def test_the_first_wave_counts_1_the_next_one_2_then_4(self):
        self.assertEqual(values_of(["01"]), [0, 1])
        self.assertEqual(values_of(["0101", "0011"]), [0, 1, 2, 3])
        self.assertEqual(values_of(["0001", "0010", "0100"]), [0, 4, 2, 1])
        self.assertEqual(values_of(SIX), [8, 17, 18, 19, 20, 53])
        self.assertEqual(values_of(["1" * 12] * 6), [63] * 12)

    def test_one_to_six_waves(self):
        for many in range(1, 7):
            self.assertEqual(values_of(["0"] * (many - 1) + ["1"]), [(1, 2, 4, 8, 16, 32)[many - 1]])
            self.assertEqual(values_of(["1"] * many), [(1, 3, 7, 15, 31, 63)[many - 1]])

    def test_none_where_some_level_is_not_known(self):
        self.assertEqual(values_of(["x01", "000"]), [None, 0, 1])
        self.assertEqual(values_of(["001", "x00"]), [None, 0, 1])
        self.assertEqual(values_of(["x"]), [None])
        self.assertEqual(values_of(["0"] * 5 + ["x"]), [None])

    def test_all_short_waves_in_lists_and_tuples(self):
        for waves in lists_of_waves():
            self.assertEqual(values_of(waves), values_by_hand(waves))
            self.assertEqual(values_of(list(waves)), values_by_hand(waves))

    def test_unlike(self):
        for waves in UNLIKE_LISTS:
            refuses(self, Unlike, values_of, waves)
            refuses(self, Unlike, values_of, tuple(waves))


class ValueBounds(unittest.TestCase):
    """[14.1]"""

    def test_least_and_greatest(self):
        self.assertEqual(value_bounds(["01x"]), [(0, 0), (1, 1), (0, 1)])
        self.assertEqual(value_bounds(["0x1", "xx1"]), [(0, 2), (0, 3), (3, 3)])
        self.assertEqual(value_bounds(["x", "1", "x"]), [(2, 7)])
        self.assertEqual(value_bounds(["x" * 12] * 6), [(0, 63)] * 12)
        self.assertEqual(value_bounds(["1", "1", "1", "1", "1", "x"]), [(31, 63)])

    def test_all_short_waves_in_lists_and_tuples(self):
        for waves in lists_of_waves():
            self.assertEqual(value_bounds(waves), bounds_by_hand(waves))
            self.assertEqual(value_bounds(list(waves)), bounds_by_hand(waves))

    def test_both_are_the_number_where_it_is_known(self):
        for waves in lists_of_waves():
            for number, bounds in zip(values_of(waves), value_bounds(waves)):
                self.assertEqual(number is not None, bounds[0] == bounds[1])
                self.assertIn(number, (None, bounds[0]))

    def test_unlike(self):
        for waves in UNLIKE_LISTS:
            refuses(self, Unlike, value_bounds, waves)


class ValueChanges(unittest.TestCase):
    """[14.1]"""

    def test_ticks_at_which_the_number_is_another_one_than_ahead(self):
        self.assertEqual(value_changes(["0011"]), [2])
        self.assertEqual(value_changes(["0011", "0110"]), [1, 2, 3])
        self.assertEqual(value_changes(["0000", "1111"]), [])
        self.assertEqual(value_changes(["0"]), [])
        self.assertEqual(value_changes(["01" * 6]), list(range(1, 12)))

    def test_both_numbers_must_be_known(self):
        self.assertEqual(value_changes(["0x1"]), [])
        self.assertEqual(value_changes(["x01"]), [2])
        self.assertEqual(value_changes(["01x"]), [1])
        self.assertEqual(value_changes(["0101", "00x0"]), [1])
        self.assertEqual(value_changes(["xxxx"]), [])

    def test_all_short_waves_in_lists_and_tuples(self):
        for waves in lists_of_waves():
            numbers = values_by_hand(waves)
            expected = []
            for tick in range(1, len(numbers)):
                pair = numbers[tick - 1:tick + 1]
                if pair[0] is not None and pair[1] is not None and pair[0] != pair[1]:
                    expected.append(tick)
            self.assertEqual(value_changes(waves), expected)
            self.assertEqual(value_changes(list(waves)), expected)

    def test_unlike(self):
        for waves in UNLIKE_LISTS:
            refuses(self, Unlike, value_changes, waves)


class OfValues(unittest.TestCase):
    """[14.1], [0.2] (j)"""

    def test_so_many_waves(self):
        self.assertEqual(of_values([0, 1], 1), ["01"])
        self.assertEqual(of_values([0, 1, 2, 3], 2), ["0101", "0011"])
        self.assertEqual(of_values([5], 4), ["1", "0", "1", "0"])
        self.assertEqual(of_values([8, 17, 18, 19, 20, 53], 6), SIX)
        self.assertEqual(of_values((63,) * 12, 6), ["1" * 12] * 6)

    def test_all_levels_are_x_where_none_is(self):
        self.assertEqual(of_values([None], 3), ["x", "x", "x"])
        self.assertEqual(of_values([0, None, 3], 2), ["0x1", "0x1"])
        self.assertEqual(of_values((None,) * 12, 1), ["x" * 12])

    def test_numbers_read_from_them_are_these(self):
        for many in range(1, 7):
            numbers = [None] + list(range(64))[:(2, 4, 8, 16, 32, 64)[many - 1]]
            for start in range(0, len(numbers), 12):
                rows = numbers[start:start + 12]
                for handed in (rows, tuple(rows), rows[::-1]):
                    waves = of_values(handed, many)
                    self.assertEqual(len(waves), many)
                    self.assertEqual(values_of(waves), list(handed))

    def test_known_waves_are_made_again_of_their_numbers(self):
        for many, length in ((1, 4), (2, 3), (3, 2)):
            for waves in product(waves_of(length, "01"), repeat=many):
                self.assertEqual(of_values(values_of(waves), many), list(waves))

    def test_too_long(self):
        for numbers in ([], (), [0] * 13, (0,) * 13, [None] * 13, [0] * 40):
            for many in (1, 3, 6):
                refuses(self, TooLong, of_values, numbers, many)
        self.assertEqual(of_values([0] * 12, 1), ["0" * 12])

    def test_no_wave_of_a_many_that_is_not_from_1_to_6(self):
        for many in (0, -1, 7, 8, -7, 10 ** 9):
            refuses(self, NoWave, of_values, [0], many)
            refuses(self, NoWave, of_values, (None, None), many)

    def test_no_wave_of_numbers_that_so_many_waves_can_not_make(self):
        for many in range(1, 7):
            beyond = (2, 4, 8, 16, 32, 64)[many - 1]
            self.assertEqual(values_of(of_values([beyond - 1, 0], many)), [beyond - 1, 0])
            for number in (beyond, beyond + 1, 64, 10 ** 9, -1, -2, -beyond, -10 ** 9):
                refuses(self, NoWave, of_values, [number], many)
                refuses(self, NoWave, of_values, [0, None, number], many)
                refuses(self, NoWave, of_values, (number, 0), many)

    def test_too_long_comes_first(self):
        for numbers in ([], [0] * 13, [99] * 13, [-1] * 13):
            for many in (0, 7, -1, 1):
                refuses(self, TooLong, of_values, numbers, many)


class BeyondTheBounds(unittest.TestCase):
    """The interface: nothing is refused for what lies somewhat beyond a bound, unless a point says so."""

    def test_no_waves_and_more_than_six(self):
        for call in (values_of, value_bounds, value_changes):
            self.assertEqual(call([]), [])
            self.assertEqual(call(()), [])
        self.assertEqual(values_of(["0"] * 6 + ["1"]), [64])
        self.assertEqual(value_bounds(["x"] * 7), [(0, 127)])
        self.assertEqual(value_changes(["00"] * 6 + ["01"]), [1])

    def test_waves_of_no_tick_and_of_more_than_12(self):
        for call in (values_of, value_bounds, value_changes):
            self.assertEqual(call(["", ""]), [])
        self.assertEqual(values_of(["0" * 13]), [0] * 13)
        self.assertEqual(value_changes(["0" * 13 + "1"]), [13])


class ToldAnew(unittest.TestCase):
    """[0.3]"""

    def test_told_lists_are_new_ones(self):
        for waves in (["0101", "00x1"], ("0101", "0011"), ["x"]):
            for call in (values_of, value_bounds, value_changes):
                tells_a_new_list(self, call, waves)
        for numbers in ([0, 1, None], (0, 1)):
            tells_a_new_list(self, of_values, numbers, 2)

    def test_handed_in_lists_are_not_changed(self):
        waves = ["01x", "x10"]
        for call in (values_of, value_bounds, value_changes):
            call(waves)
        self.assertEqual(waves, ["01x", "x10"])
        numbers = [0, None, 3]
        of_values(numbers, 2)
        self.assertEqual(numbers, [0, None, 3])

    def test_kinds_of_what_is_told(self):
        self.assertEqual([type(number) for number in values_of(["01x"])], [int, int, type(None)])
        self.assertEqual([type(row) for row in value_bounds(["0"])], [tuple])
        self.assertEqual([type(number) for number in value_bounds(["x"])[0]], [int, int])
        self.assertEqual([type(wave) for wave in of_values([1], 2)], [str, str])


if __name__ == "__main__":
    unittest.main()
