import unittest
from itertools import product

from all_waves import all_that_it_can_be, waves_of
from refusals import refuses, tells_a_new_dict, tells_a_new_list
from tickrows.errors import Clash, NoName, NoTick, TooLong, Unlike
from tickrows.sheets import (
    all_sheets, differing, length_of, levels_at, sheet_fits, sheet_is_known, sheets_joined, unknown_of, wave_of,
    with_wave, without_wave,
)

NO_WAVE = {}
ONE_WAVE = {"a": "01x"}
MORE_WAVES = {"b": "x10x", "a": "0011", "long name": "1111", "": "xxxx"}
SHEETS = [NO_WAVE, ONE_WAVE, MORE_WAVES]


def by_names(sheets):
    return sorted([sorted(sheet.items()) for sheet in sheets])


class LengthOf(unittest.TestCase):
    """[6.1]"""

    def test_length_of(self):
        self.assertEqual([length_of(sheet) for sheet in SHEETS], [0, 3, 4])
        self.assertEqual(length_of({"a": "0"}), 1)
        self.assertEqual(length_of({"a": "0" * 12, "b": "1" * 12}), 12)


class WithWave(unittest.TestCase):
    """[6.1]"""

    def test_another_name(self):
        self.assertEqual(with_wave({}, "a", "01x"), {"a": "01x"})
        self.assertEqual(with_wave({"a": "01x"}, "b", "111"), {"a": "01x", "b": "111"})
        self.assertEqual(with_wave({"a": "01", "b": "10"}, "c", "xx"), {"a": "01", "b": "10", "c": "xx"})
        self.assertEqual(with_wave({"a": "01"}, "", "10"), {"a": "01", "": "10"})

    def test_in_the_stead_of_another_one(self):
        self.assertEqual(with_wave({"a": "01x"}, "a", "111"), {"a": "111"})
        self.assertEqual(with_wave({"a": "01", "b": "10"}, "a", "xx"), {"a": "xx", "b": "10"})
        self.assertEqual(with_wave({"a": "01", "b": "10"}, "b", "10"), {"a": "01", "b": "10"})

    def test_in_the_stead_of_the_only_one_with_another_length(self):
        self.assertEqual(with_wave({"a": "01x"}, "a", "0"), {"a": "0"})
        self.assertEqual(with_wave({"a": "0"}, "a", "1" * 12), {"a": "1" * 12})

    def test_unlike(self):
        refuses(self, Unlike, with_wave, {"a": "01"}, "b", "0")
        refuses(self, Unlike, with_wave, {"a": "01"}, "b", "011")
        refuses(self, Unlike, with_wave, {"a": "01", "b": "11"}, "b", "0")
        refuses(self, Unlike, with_wave, {"a": "01", "b": "11"}, "a", "011")
        refuses(self, Unlike, with_wave, {"a": "01", "b": "11", "c": "xx"}, "d", "x")
        refuses(self, Unlike, with_wave, {"a": "0" * 11}, "b", "0" * 12)

    def test_the_handed_sheet_stays_as_it_was(self):
        sheet = {"a": "01", "b": "10"}
        with_wave(sheet, "c", "xx")
        with_wave(sheet, "a", "xx")
        refuses(self, Unlike, with_wave, sheet, "a", "xxx")
        refuses(self, Unlike, with_wave, sheet, "c", "x")
        self.assertEqual(sheet, {"a": "01", "b": "10"})


class WaveOf(unittest.TestCase):
    """[6.1]"""

    def test_wave_of(self):
        for sheet in SHEETS:
            for name, wave in sheet.items():
                self.assertEqual(wave_of(sheet, name), wave)

    def test_no_name(self):
        for name in ("", "a", "b"):
            refuses(self, NoName, wave_of, {}, name)
        for name in ("b", "A", "", "a ", " a", "aa", "01x"):
            refuses(self, NoName, wave_of, {"a": "01x"}, name)
        refuses(self, NoName, wave_of, {"a": "0", "b": "1"}, "c")


class WithoutWave(unittest.TestCase):
    """[6.1]"""

    def test_without_wave(self):
        self.assertEqual(without_wave({"a": "01x"}, "a"), {})
        self.assertEqual(without_wave({"a": "01", "b": "10"}, "a"), {"b": "10"})
        self.assertEqual(without_wave({"a": "01", "b": "01"}, "b"), {"a": "01"})
        for name in MORE_WAVES:
            expected = {other: wave for other, wave in MORE_WAVES.items() if other != name}
            self.assertEqual(without_wave(MORE_WAVES, name), expected)

    def test_no_name(self):
        for name in ("", "a", "b"):
            refuses(self, NoName, without_wave, {}, name)
        for name in ("b", "A", "", "a ", " a", "aa", "01x"):
            refuses(self, NoName, without_wave, {"a": "01x"}, name)
        refuses(self, NoName, without_wave, {"a": "0", "b": "1"}, "c")

    def test_the_handed_sheet_stays_as_it_was(self):
        sheet = {"a": "01", "b": "10"}
        without_wave(sheet, "a")
        refuses(self, NoName, without_wave, sheet, "c")
        self.assertEqual(sheet, {"a": "01", "b": "10"})


class LevelsAt(unittest.TestCase):
    """[6.1]"""

    def test_all_levels_there(self):
        self.assertEqual([levels_at(ONE_WAVE, tick) for tick in range(3)], [{"a": "0"}, {"a": "1"}, {"a": "x"}])
        self.assertEqual(levels_at({"a": "01", "b": "x0"}, 0), {"a": "0", "b": "x"})
        self.assertEqual(levels_at({"a": "01", "b": "x0"}, 1), {"a": "1", "b": "0"})
        self.assertEqual(levels_at({"a": "0" * 11 + "1", "b": "1" * 11 + "x"}, 11), {"a": "1", "b": "x"})

    def test_no_tick(self):
        for sheet in ({"a": "0"}, {"a": "01x"}, {"a": "01", "b": "x0"}, {"a": "1" * 12}):
            length = length_of(sheet)
            for tick in (-1, -length, -length - 1, length, length + 1, 100):
                refuses(self, NoTick, levels_at, sheet, tick)

    def test_a_sheet_of_no_wave_lacks_no_tick(self):
        for tick in (-1, 0, 1, 12, 100):
            self.assertEqual(levels_at({}, tick), {})


class Differing(unittest.TestCase):
    """[6.2]"""

    def test_other_levels_by_a_name(self):
        self.assertEqual(differing({"a": "01x"}, {"a": "01x"}), [])
        self.assertEqual(differing({"a": "01x"}, {"a": "11x"}), [("a", 0)])
        self.assertEqual(differing({"a": "01x"}, {"a": "xx1"}), [("a", 0), ("a", 1), ("a", 2)])
        self.assertEqual(differing({"a": "00", "b": "11"}, {"a": "01", "b": "01"}), [("a", 1), ("b", 0)])

    def test_names_that_just_one_has(self):
        self.assertEqual(differing({"a": "01x"}, {}), [("a", 0), ("a", 1), ("a", 2)])
        self.assertEqual(differing({}, {"a": "xx"}), [("a", 0), ("a", 1)])
        self.assertEqual(differing({"a": "01"}, {"b": "01"}), [("a", 0), ("a", 1), ("b", 0), ("b", 1)])
        self.assertEqual(differing({"c": "01", "a": "1x"}, {"c": "00", "b": "00"}),
                         [("a", 0), ("a", 1), ("b", 0), ("b", 1), ("c", 1)])

    def test_waves_of_unlike_lengths(self):
        self.assertEqual(differing({"a": "01"}, {"a": "01x1"}), [("a", 2), ("a", 3)])
        self.assertEqual(differing({"a": "01x1"}, {"a": "01"}), [("a", 2), ("a", 3)])
        self.assertEqual(differing({"a": "01x"}, {"a": "1"}), [("a", 0), ("a", 1), ("a", 2)])
        self.assertEqual(differing({"a": "0", "b": "1"}, {"b": "10", "c": "11"}),
                         [("a", 0), ("b", 1), ("c", 0), ("c", 1)])

    def test_no_waves(self):
        self.assertEqual(differing({}, {}), [])

    def test_rising(self):
        one = {"b": "0" * 12, "ab": "0" * 12, "B": "0" * 12, "": "0" * 12, "a": "0" * 12}
        told = differing(one, {"z": "1" * 12})
        self.assertEqual(told, sorted(told))
        self.assertEqual(len(set(told)), 72)
        self.assertEqual(told, [(name, tick) for name in ("", "B", "a", "ab", "b", "z") for tick in range(12)])
        self.assertEqual(differing({"z": "1" * 12}, one), told)

    def test_all_short_waves(self):
        for first in ["0", "1", "x"] + waves_of(2):
            for second in ["0", "1", "x"] + waves_of(2):
                signs = [(dict(enumerate(first)).get(tick), dict(enumerate(second)).get(tick)) for tick in range(2)]
                expected = [("a", tick) for tick in range(2) if signs[tick][0] != signs[tick][1]]
                self.assertEqual(differing({"a": first}, {"a": second}), expected)


class Unknown(unittest.TestCase):
    """[6.2]"""

    def test_unknown_of(self):
        self.assertEqual([unknown_of(sheet) for sheet in SHEETS], [0, 1, 6])
        self.assertEqual(unknown_of({"a": "01", "b": "10"}), 0)
        self.assertEqual(unknown_of({"a": "x" * 12, "b": "x" * 12, "c": "0" * 12}), 24)
        self.assertEqual(unknown_of({"x": "01", "xx": "1x"}), 1)

    def test_sheet_is_known(self):
        self.assertEqual([sheet_is_known(sheet) for sheet in SHEETS], [True, False, False])
        self.assertIs(sheet_is_known({}), True)
        self.assertIs(sheet_is_known({"a": "01"}), True)
        self.assertIs(sheet_is_known({"x": "01", "b": "10"}), True)
        self.assertIs(sheet_is_known({"a": "01", "b": "1x"}), False)
        self.assertIs(sheet_is_known({"a": "x1", "b": "10"}), False)


class SheetFits(unittest.TestCase):
    """[6.2]"""

    def test_each_wave_fits(self):
        self.assertIs(sheet_fits({"a": "0x"}, {"a": "01"}), True)
        self.assertIs(sheet_fits({"a": "0x"}, {"a": "0x"}), True)
        self.assertIs(sheet_fits({"a": "0x", "b": "x1"}, {"b": "01", "a": "00"}), True)
        self.assertIs(sheet_fits({"a": "0x"}, {"a": "11"}), False)
        self.assertIs(sheet_fits({"a": "01"}, {"a": "0x"}), False)
        self.assertIs(sheet_fits({"a": "0x", "b": "x1"}, {"a": "01", "b": "10"}), False)
        self.assertIs(sheet_fits({"a": "0x", "b": "x1"}, {"a": "11", "b": "11"}), False)

    def test_other_names(self):
        self.assertIs(sheet_fits({"a": "xx"}, {"b": "01"}), False)
        self.assertIs(sheet_fits({"a": "xx"}, {"a": "01", "b": "01"}), False)
        self.assertIs(sheet_fits({"a": "xx", "b": "xx"}, {"a": "01"}), False)
        self.assertIs(sheet_fits({"a": "xx", "b": "xx"}, {"a": "01", "c": "01"}), False)

    def test_another_length(self):
        self.assertIs(sheet_fits({"a": "xx"}, {"a": "0"}), False)
        self.assertIs(sheet_fits({"a": "xx"}, {"a": "010"}), False)
        self.assertIs(sheet_fits({"a": "x", "b": "x"}, {"a": "01", "b": "01"}), False)
        self.assertIs(sheet_fits({"a": "x" * 12}, {"a": "0" * 11}), False)

    def test_an_empty_sheet(self):
        self.assertIs(sheet_fits({}, {}), True)
        self.assertIs(sheet_fits({}, {"a": "0"}), False)
        self.assertIs(sheet_fits({"a": "x"}, {}), False)


class SheetsJoined(unittest.TestCase):
    """[6.3], [0.2] (d)"""

    def test_no_name_in_both(self):
        self.assertEqual(sheets_joined({"a": "01"}, {"b": "x1"}), {"a": "01", "b": "x1"})
        self.assertEqual(sheets_joined({"a": "01", "b": "11"}, {"c": "xx", "d": "00"}),
                         {"a": "01", "b": "11", "c": "xx", "d": "00"})

    def test_some_names_in_both(self):
        self.assertEqual(sheets_joined({"a": "0x", "b": "11"}, {"a": "x1", "c": "00"}),
                         {"a": "01", "b": "11", "c": "00"})

    def test_all_names_in_both(self):
        self.assertEqual(sheets_joined({"a": "0xx", "b": "1x0"}, {"b": "xx0", "a": "xx1"}),
                         {"a": "0x1", "b": "1x0"})
        self.assertEqual(sheets_joined(MORE_WAVES, MORE_WAVES), MORE_WAVES)

    def test_an_empty_sheet(self):
        self.assertEqual(sheets_joined({}, {}), {})
        for sheet in SHEETS:
            self.assertEqual(sheets_joined(sheet, {}), sheet)
            self.assertEqual(sheets_joined({}, sheet), sheet)

    def test_clash(self):
        refuses(self, Clash, sheets_joined, {"a": "01"}, {"a": "00"})
        refuses(self, Clash, sheets_joined, {"a": "01", "b": "x0"}, {"a": "01", "b": "x1"})
        refuses(self, Clash, sheets_joined, {"a": "01", "b": "x0"}, {"b": "11", "c": "00"})

    def test_waves_of_other_names_do_not_clash(self):
        self.assertEqual(sheets_joined({"a": "01"}, {"b": "10"}), {"a": "01", "b": "10"})

    def test_unlike(self):
        refuses(self, Unlike, sheets_joined, {"a": "01"}, {"a": "010"})
        refuses(self, Unlike, sheets_joined, {"a": "01"}, {"a": "1"})
        refuses(self, Unlike, sheets_joined, {"a": "01"}, {"b": "0"})
        refuses(self, Unlike, sheets_joined, {"a": "0"}, {"b": "01"})
        refuses(self, Unlike, sheets_joined, {"a": "01", "b": "11"}, {"b": "111", "c": "111"})

    def test_it_can_be_just_what_both_can_be(self):
        for one in product(waves_of(2), repeat=2):
            for other in (("0x", "xx"), ("x1", "0x"), ("xx", "10")):
                first, second = dict(zip("ab", one)), dict(zip("ab", other))
                common = [each for each in by_names(all_sheets(first)) if each in by_names(all_sheets(second))]
                if common:
                    self.assertEqual(by_names(all_sheets(sheets_joined(first, second))), common)
                else:
                    refuses(self, Clash, sheets_joined, first, second)

    def test_handed_sheets_stay_as_they_were(self):
        one, other = {"a": "0x", "b": "11"}, {"a": "x1", "c": "00"}
        sheets_joined(one, other)
        refuses(self, Clash, sheets_joined, one, {"d": "11", "a": "1x"})
        refuses(self, Unlike, sheets_joined, one, {"d": "111"})
        self.assertEqual(one, {"a": "0x", "b": "11"})
        self.assertEqual(other, {"a": "x1", "c": "00"})


class AllSheets(unittest.TestCase):
    """[6.3]"""

    def test_an_empty_sheet(self):
        self.assertEqual(all_sheets({}), [{}])

    def test_known_sheets(self):
        self.assertEqual(all_sheets({"a": "01"}), [{"a": "01"}])
        self.assertEqual(all_sheets({"a": "01", "b": "11"}), [{"a": "01", "b": "11"}])

    def test_one_wave(self):
        self.assertEqual(by_names(all_sheets({"a": "x0"})), by_names([{"a": "00"}, {"a": "10"}]))

    def test_more_waves_each_once(self):
        self.assertEqual(by_names(all_sheets({"a": "x0", "b": "1x"})), by_names([
            {"a": "00", "b": "10"}, {"a": "00", "b": "11"}, {"a": "10", "b": "10"}, {"a": "10", "b": "11"}]))
        for waves in product(waves_of(2), repeat=3):
            choices = product(*[all_that_it_can_be(wave) for wave in waves])
            expected = [dict(zip("abc", row)) for row in choices]
            self.assertEqual(by_names(all_sheets(dict(zip("abc", waves)))), by_names(expected))

    def test_known_and_fitted(self):
        told = all_sheets(MORE_WAVES)
        self.assertEqual(len(told), 64)
        self.assertEqual(len({tuple(sorted(sheet.items())) for sheet in told}), 64)
        for sheet in told:
            self.assertIs(sheet_is_known(sheet), True)
            self.assertIs(sheet_fits(MORE_WAVES, sheet), True)

    def test_six_unknown_levels_of_each_wave(self):
        self.assertEqual(len(all_sheets({"a": "x" * 6, "b": "0" * 6})), 64)
        told = all_sheets({"a": "x" * 6, "b": "x" * 6})
        self.assertEqual(len({(sheet["a"], sheet["b"]) for sheet in told}), 4096)
        self.assertEqual(len(told), 4096)

    def test_too_long_with_seven_of_one_wave(self):
        refuses(self, TooLong, all_sheets, {"a": "x" * 7})
        refuses(self, TooLong, all_sheets, {"a": "0" * 7, "b": "x" * 7})
        refuses(self, TooLong, all_sheets, {"b": "x" * 7, "a": "0" * 7})
        refuses(self, TooLong, all_sheets, {"a": "x" * 12})
        waves = {name: "0" * 6 + "x" * 6 for name in "abcdefgh"}
        refuses(self, TooLong, all_sheets, {**waves, "i": "0" * 5 + "x" * 7})

    def test_sheets_told_are_apart_from_each_other(self):
        told = all_sheets({"a": "x", "b": "x"})
        told[0]["a"] = "changed"
        told[0]["c"] = "more"
        self.assertEqual([sheet for sheet in told[1:] if "c" in sheet or sheet["a"] == "changed"], [])


class HandedIn(unittest.TestCase):
    """[0.3]"""

    def test_handed_sheets_stay_as_they_were(self):
        for sheet in SHEETS:
            kept = dict(sheet)
            handed = dict(sheet)
            other = {name: "x" * len(wave) for name, wave in sheet.items()}
            other_kept = dict(other)
            for call in (length_of, unknown_of, sheet_is_known, all_sheets):
                call(handed)
            for call in (differing, sheet_fits, sheets_joined):
                call(handed, other)
                call(other, handed)
            levels_at(handed, 0)
            with_wave(handed, "more", "0" * length_of(handed))
            for name in kept:
                wave_of(handed, name)
                without_wave(handed, name)
            refuses(self, NoName, wave_of, handed, "more")
            refuses(self, NoName, without_wave, handed, "more")
            self.assertEqual(list(handed.items()), list(kept.items()))
            self.assertEqual(list(other.items()), list(other_kept.items()))

    def test_told_sheets_may_be_changed_while_the_handed_ones_stay(self):
        sheet = {"a": "01", "b": "11"}
        for told in (with_wave(sheet, "a", "01"), with_wave(sheet, "c", "00"), without_wave(sheet, "a"),
                     sheets_joined(sheet, {}), sheets_joined({}, sheet), sheets_joined(sheet, sheet),
                     all_sheets(sheet)[0]):
            told["b"] = "changed"
            told["more"] = "more"
            told.pop("a", None)
            self.assertEqual(sheet, {"a": "01", "b": "11"})


class ToldAnew(unittest.TestCase):
    """[0.3]"""

    def test_told_lists_are_new_ones(self):
        for sheet in SHEETS:
            tells_a_new_list(self, differing, sheet, {"b": "0101"})
            tells_a_new_list(self, differing, sheet, sheet)
            tells_a_new_list(self, all_sheets, sheet)

    def test_told_dicts_are_new_ones(self):
        for sheet in SHEETS:
            tells_a_new_dict(self, with_wave, sheet, "more", "0" * length_of(sheet))
            tells_a_new_dict(self, levels_at, sheet, 0)
            tells_a_new_dict(self, sheets_joined, sheet, {})
            tells_a_new_dict(self, sheets_joined, {}, sheet)
            tells_a_new_dict(self, sheets_joined, sheet, sheet)
            for name in sheet:
                tells_a_new_dict(self, without_wave, sheet, name)
        tells_a_new_dict(self, with_wave, {"a": "01"}, "a", "01")

    def test_sheets_in_a_told_list_are_new_ones(self):
        for sheet in SHEETS:
            kept = by_names(all_sheets(sheet))
            for told in all_sheets(sheet):
                told.clear()
                told["changed"] = "0"
            self.assertEqual(by_names(all_sheets(sheet)), kept)

    def test_kinds_of_what_is_told(self):
        self.assertIs(type(length_of({})), int)
        self.assertIs(type(unknown_of({})), int)
        told = differing({"a": "01"}, {})
        self.assertEqual([(type(row), type(row[0]), type(row[1])) for row in told], [(tuple, str, int)] * 2)
        self.assertIs(type(wave_of({"a": "01"}, "a")), str)
        self.assertEqual([type(sheet) for sheet in all_sheets({"a": "x"})], [dict, dict])


if __name__ == "__main__":
    unittest.main()
