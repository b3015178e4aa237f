import unittest
from itertools import permutations

from all_waves import waves_of, waves_up_to
from refusals import refuses, tells_a_new_list
from tickrows.errors import Clash, NoTick, TooLong, Unlike
from tickrows.patches import contested, merged, patch, patched

UNLIKE_PAIRS = [("0", "01"), ("01", "0"), ("0" * 12, "0" * 11), ("x", "xx"), ("1", "0" * 12), ("00", "111")]
UNLIKE_THREES = [("0", "0", "01"), ("0", "01", "0"), ("01", "0", "0"), ("0", "01", "01"), ("01", "0", "01"),
                 ("0", "10", "110"), ("0" * 12, "1" * 12, "x" * 11), ("00", "11", "xxx"), ("0", "1", "x0")]


def patch_by_hand(old, new):
    rows = []
    for tick in range(len(old)):
        if old[tick] != new[tick]:
            if rows and rows[-1][0] + len(rows[-1][1]) == tick:
                rows[-1] = (rows[-1][0], rows[-1][1] + new[tick])
            else:
                rows.append((tick, new[tick]))
    return rows


class Patch(unittest.TestCase):
    """[11.1], [0.2] (h)"""

    def test_stretches_of_unlike_signs(self):
        self.assertEqual(patch("0000", "0000"), [])
        self.assertEqual(patch("0000", "1000"), [(0, "1")])
        self.assertEqual(patch("0000", "0001"), [(3, "1")])
        self.assertEqual(patch("0000", "11x1"), [(0, "11x1")])
        self.assertEqual(patch("010101", "011001"), [(2, "10")])
        self.assertEqual(patch("000000", "110011"), [(0, "11"), (4, "11")])
        self.assertEqual(patch("xxxx", "0x1x"), [(0, "0"), (2, "1")])
        self.assertEqual(patch("01x", "x01"), [(0, "x01")])
        self.assertEqual(patch("0" * 12, "01" * 6), [(1, "1"), (3, "1"), (5, "1"), (7, "1"), (9, "1"), (11, "1")])
        self.assertEqual(patch("0", "x"), [(0, "x")])

    def test_all_short_waves(self):
        for old in waves_up_to(4):
            for new in waves_of(len(old)):
                self.assertEqual(patch(old, new), patch_by_hand(old, new))

    def test_leads_from_the_one_wave_to_the_other_in_any_order(self):
        for old in waves_of(4):
            for new in waves_of(4):
                for rows in permutations(patch(old, new)):
                    self.assertEqual(patched(old, rows), new)
                    self.assertEqual(patched(old, list(rows)), new)

    def test_says_nothing_twice_and_nothing_that_is_so_already(self):
        for old in waves_of(4):
            for new in waves_of(4):
                ticks = [tick + more for tick, levels in patch(old, new) for more in range(len(levels))]
                self.assertEqual(ticks, [tick for tick in range(4) if old[tick] != new[tick]])

    def test_unlike(self):
        for old, new in UNLIKE_PAIRS:
            refuses(self, Unlike, patch, old, new)


class Patched(unittest.TestCase):
    """[11.1]"""

    def test_levels_from_each_tick_on(self):
        self.assertEqual(patched("0000", []), "0000")
        self.assertEqual(patched("0000", ()), "0000")
        self.assertEqual(patched("0000", [(0, "1")]), "1000")
        self.assertEqual(patched("0000", [(3, "x")]), "000x")
        self.assertEqual(patched("0000", [(0, "1x01")]), "1x01")
        self.assertEqual(patched("0" * 12, [(11, "1"), (0, "1")]), "1" + "0" * 10 + "1")

    def test_rows_in_any_order_in_a_list_or_a_tuple(self):
        for rows in permutations([(0, "1"), (2, "11"), (5, "x")]):
            self.assertEqual(patched("000000", list(rows)), "10110x")
            self.assertEqual(patched("000000", rows), "10110x")

    def test_one_behind_the_other(self):
        self.assertEqual(patched("0000", [(0, "11"), (1, "x")]), "1x00")
        self.assertEqual(patched("0000", [(1, "x"), (0, "11")]), "1100")
        self.assertEqual(patched("0000", [(0, "1111"), (0, "00"), (1, "x")]), "0x11")

    def test_no_tick(self):
        for tick in (-1, -2, -4, 4, 5, 12, 10 ** 9, -10 ** 9):
            refuses(self, NoTick, patched, "0000", [(tick, "1")])
            refuses(self, NoTick, patched, "0000", ((0, "1"), (tick, "1")))
        refuses(self, NoTick, patched, "0", [(1, "0")])
        refuses(self, NoTick, patched, "0" * 12, [(12, "0")])

    def test_levels_that_reach_beyond_the_last_tick(self):
        for tick, levels in ((0, "00000"), (1, "0000"), (3, "00"), (3, "11x"), (2, "0" * 12)):
            refuses(self, TooLong, patched, "0000", [(tick, levels)])
        refuses(self, TooLong, patched, "0" * 12, [(11, "00")])

    def test_another_sign_among_the_levels(self):
        for levels in ("2", "X", ".", " ", "0.", "01 ", "a", "0\n", "x2", "2x", "-"):
            refuses(self, TooLong, patched, "0000", [(0, levels)])
            refuses(self, TooLong, patched, "0000", ((0, "1111"), (1, levels)))

    def test_no_tick_comes_ahead_of_too_long_in_a_row(self):
        refuses(self, NoTick, patched, "0000", [(4, "2")])
        refuses(self, NoTick, patched, "0000", [(-1, "0" * 9)])
        refuses(self, NoTick, patched, "0000", [(4, "00")])

    def test_each_row_in_its_turn(self):
        refuses(self, TooLong, patched, "0000", [(0, "2"), (4, "0")])
        refuses(self, NoTick, patched, "0000", [(4, "0"), (0, "2")])
        refuses(self, TooLong, patched, "0000", [(3, "00"), (9, "1")])
        refuses(self, NoTick, patched, "0000", [(0, "1"), (9, "1"), (3, "00")])

    def test_handed_in_rows_are_not_changed(self):
        rows = [(2, "1"), (0, "x")]
        patched("000", rows)
        self.assertEqual(rows, [(2, "1"), (0, "x")])
        rows = [(0, "x"), (3, "1")]
        refuses(self, NoTick, patched, "000", rows)
        self.assertEqual(rows, [(0, "x"), (3, "1")])


class Merged(unittest.TestCase):
    """[11.1], [0.2] (h)"""

    def test_what_one_of_the_two_has_otherwise(self):
        self.assertEqual(merged("0000", "1000", "0001"), "1001")
        self.assertEqual(merged("0000", "0000", "0000"), "0000")
        self.assertEqual(merged("0101", "0101", "xxxx"), "xxxx")
        self.assertEqual(merged("0101", "xxxx", "0101"), "xxxx")
        self.assertEqual(merged("x1x1", "0111", "x1xx"), "011x")

    def test_both_otherwise_and_alike(self):
        self.assertEqual(merged("0000", "0110", "0011"), "0111")
        self.assertEqual(merged("0", "x", "x"), "x")
        self.assertEqual(merged("01x", "100", "100"), "100")

    def test_both_otherwise_and_unlike(self):
        refuses(self, Clash, merged, "0", "1", "x")
        refuses(self, Clash, merged, "x", "0", "1")
        refuses(self, Clash, merged, "0000", "x000", "1000")
        refuses(self, Clash, merged, "0000", "000x", "0001")
        refuses(self, Clash, merged, "0" * 12, "x" * 12, "1" * 12)

    def test_whichever_is_told_first_of_all_short_waves(self):
        for first in waves_of(2):
            for one in waves_of(2):
                for other in waves_of(2):
                    if any(len({first[tick], one[tick], other[tick]}) == 3 for tick in range(2)):
                        refuses(self, Clash, merged, first, one, other)
                        refuses(self, Clash, merged, first, other, one)
                    else:
                        told = merged(first, one, other)
                        self.assertEqual(told, self.merged_by_hand(first, one, other))
                        self.assertEqual(merged(first, other, one), told)

    def merged_by_hand(self, first, one, other):
        told = ""
        for own, left, right in zip(first, one, other):
            news = {left, right} - {own}
            told += news.pop() if news else own
        return told

    def test_patches_of_both_lead_to_it(self):
        for one in waves_of(3):
            for other in waves_of(3):
                if contested("01x", one, other) == []:
                    rows = patch("01x", one) + patch("01x", other)
                    self.assertEqual(patched("01x", rows), merged("01x", one, other))

    def test_unlike_also_where_ticks_clash(self):
        for first, one, other in UNLIKE_THREES:
            refuses(self, Unlike, merged, first, one, other)


class Contested(unittest.TestCase):
    """[11.1]"""

    def test_where_all_three_are_unlike(self):
        self.assertEqual(contested("0000", "1x10", "x110"), [0, 1])
        self.assertEqual(contested("0" * 12, "1" * 12, "x" * 12), list(range(12)))
        self.assertEqual(contested("000x", "1110", "0001"), [3])
        self.assertEqual(contested("01x", "01x", "10x"), [])
        self.assertEqual(contested("0", "1", "1"), [])

    def test_each_level_beside_each(self):
        for own in "01x":
            for left in "01x":
                for right in "01x":
                    expected = [0] if len({own, left, right}) == 3 else []
                    self.assertEqual(contested(own, left, right), expected)

    def test_unlike(self):
        for first, one, other in UNLIKE_THREES:
            refuses(self, Unlike, contested, first, one, other)


class BeyondTheBounds(unittest.TestCase):
    """The interface: nothing is refused for what lies somewhat beyond a bound, unless a point says so."""

    def test_waves_of_no_tick_and_of_more_than_12(self):
        self.assertEqual(patch("", ""), [])
        self.assertEqual(patched("", []), "")
        self.assertEqual(merged("", "", ""), "")
        self.assertEqual(contested("", "", ""), [])
        self.assertEqual(patch("0" * 13, "0" * 12 + "1"), [(12, "1")])
        self.assertEqual(patched("0" * 13, [(12, "1")]), "0" * 12 + "1")
        self.assertEqual(merged("0" * 13, "0" * 13, "1" * 13), "1" * 13)
        self.assertEqual(contested("0" * 13, "x" * 13, "0" * 12 + "1"), [12])


class ToldAnew(unittest.TestCase):
    """[0.3]"""

    def test_told_lists_are_new_ones(self):
        tells_a_new_list(self, patch, "0000", "1001")
        tells_a_new_list(self, patch, "0000", "0000")
        tells_a_new_list(self, contested, "0000", "1x10", "x110")
        tells_a_new_list(self, contested, "0000", "0000", "0000")

    def test_kinds_of_what_is_told(self):
        row, = patch("00", "11")
        self.assertEqual([type(row), type(row[0]), type(row[1])], [tuple, int, str])
        self.assertIs(type(patched("00", [(0, "1")])), str)
        self.assertIs(type(merged("00", "01", "00")), str)
        self.assertEqual([type(tick) for tick in contested("0", "1", "x")], [int])


if __name__ == "__main__":
    unittest.main()
