import unittest

from all_waves import all_that_it_can_be, waves_of
from refusals import refuses, tells_a_new_dict, tells_a_new_list
from tickrows.errors import NoName, TooLong
from tickrows.rules import failures, sure_failures, told_by, verdict
from tickrows.sheets import all_sheets, sheet_fits

# Rules of each kind over the names a and b.
RULES = [("never", "a", "b"), ("never", "b", "a"), ("never", "a", "a"),
         ("after", "a", "b", 0, 0), ("after", "a", "b", 0, 1), ("after", "a", "b", 1, 1), ("after", "a", "b", 1, 2),
         ("after", "b", "a", 0, 2), ("after", "a", "b", 3, 4), ("after", "a", "a", 0, 0), ("after", "a", "a", 1, 3),
         ("long", "a", "0", 1), ("long", "a", "0", 2), ("long", "a", "1", 2), ("long", "b", "1", 3),
         ("still", "a", "b"), ("still", "b", "a"), ("still", "a", "a"),
         ("turns", "a", "b"), ("turns", "b", "a"), ("turns", "a", "a")]

ASKED = [verdict, sure_failures, told_by]


def rise_at(wave, tick):
    return wave[tick - 1:tick + 1] == "01" if 0 < tick < len(wave) else False


def stretch_is_short(wave, tick, level, many):
    """Whether a stretch of the level begins here, neither the first nor the last one, and is too short."""
    if tick == 0 or wave[tick] != level or wave[tick - 1] == level:
        return False
    end = tick
    while end < len(wave) and wave[end] == level:
        end += 1
    return end < len(wave) and end - tick < many


def after_fails(one, other, low, high, tick):
    if not rise_at(one, tick) or tick + high >= len(one):
        return False
    return not any(rise_at(other, tick + later) for later in range(low, high + 1))


def turns_by_hand(one, other):
    wrong, due = [], "one"
    for tick in range(len(one)):
        risen = [who for who, wave in (("one", one), ("other", other)) if rise_at(wave, tick)]
        if risen == [due]:
            due = "other" if due == "one" else "one"
        elif risen:
            wrong.append(tick)
    return wrong


def failures_by_hand(sheet, rule):
    """Tick by tick, as the document says it."""
    one = sheet[rule[1]]
    ticks = range(len(one))
    if rule[0] == "long":
        return [tick for tick in ticks if stretch_is_short(one, tick, rule[2], rule[3])]
    other = sheet[rule[2]]
    if rule[0] == "never":
        return [tick for tick in ticks if one[tick] + other[tick] == "11"]
    if rule[0] == "after":
        return [tick for tick in ticks if after_fails(one, other, rule[3], rule[4], tick)]
    if rule[0] == "still":
        return [tick for tick in ticks[1:] if other[tick] == "1" and one[tick] != one[tick - 1]]
    return turns_by_hand(one, other)


def sheets_by_hand(sheet):
    told = [{}]
    for name, wave in sheet.items():
        told = [dict(done, **{name: known}) for done in told for known in all_that_it_can_be(wave)]
    return told


class Never(unittest.TestCase):
    """[7.1], [7.2]"""

    def test_both_at_the_first_and_the_last_tick(self):
        self.assertEqual(failures({"a": "1001", "b": "1011"}, ("never", "a", "b")), [0, 3])
        self.assertEqual(failures({"a": "1", "b": "1"}, ("never", "a", "b")), [0])
        self.assertEqual(failures({"a": "1" * 12, "b": "1" * 12}, ("never", "a", "b")), list(range(12)))

    def test_kept(self):
        self.assertEqual(failures({"a": "0101", "b": "1010"}, ("never", "a", "b")), [])
        self.assertEqual(failures({"a": "0000", "b": "1111"}, ("never", "a", "b")), [])
        self.assertEqual(failures({"a": "0000", "b": "0000"}, ("never", "a", "b")), [])

    def test_one_name_twice(self):
        self.assertEqual(failures({"a": "0110"}, ("never", "a", "a")), [1, 2])


class After(unittest.TestCase):
    """[7.1], [7.2]"""

    def test_low_to_high_ticks_later(self):
        for rise in range(2, 8):
            other = "0" * rise + "1" * (8 - rise)
            expected = [] if 3 <= rise <= 5 else [2]
            told = failures({"a": "00100000", "b": other}, ("after", "a", "b", 1, 3))
            self.assertEqual(told, expected, rise)

    def test_at_once(self):
        self.assertEqual(failures({"a": "0101", "b": "0100"}, ("after", "a", "b", 0, 0)), [3])
        self.assertEqual(failures({"a": "0101", "b": "0101"}, ("after", "a", "b", 0, 0)), [])
        self.assertEqual(failures({"a": "0101", "b": "1010"}, ("after", "a", "b", 0, 0)), [1, 3])

    def test_the_other_one_must_rise_and_not_only_be_high(self):
        self.assertEqual(failures({"a": "00100", "b": "11111"}, ("after", "a", "b", 0, 2)), [2])
        self.assertEqual(failures({"a": "00100", "b": "11011"}, ("after", "a", "b", 0, 2)), [])
        self.assertEqual(failures({"a": "00100", "b": "01111"}, ("after", "a", "b", 0, 2)), [2])

    def test_a_rise_whose_later_ticks_are_not_all_there(self):
        self.assertEqual(failures({"a": "0100", "b": "0000"}, ("after", "a", "b", 0, 2)), [1])
        self.assertEqual(failures({"a": "0010", "b": "0000"}, ("after", "a", "b", 0, 2)), [])
        self.assertEqual(failures({"a": "0001", "b": "0000"}, ("after", "a", "b", 0, 0)), [3])
        self.assertEqual(failures({"a": "0001", "b": "0000"}, ("after", "a", "b", 0, 1)), [])
        self.assertEqual(failures({"a": "0001", "b": "0000"}, ("after", "a", "b", 0, 40)), [])
        self.assertEqual(failures({"a": "0100", "b": "0000"}, ("after", "a", "b", 3, 3)), [])

    def test_a_wave_that_begins_high_does_not_rise(self):
        self.assertEqual(failures({"a": "1100", "b": "0000"}, ("after", "a", "b", 0, 1)), [])
        self.assertEqual(failures({"a": "1010", "b": "0000"}, ("after", "a", "b", 0, 1)), [2])

    def test_one_rise_behind_several(self):
        self.assertEqual(failures({"a": "01010000", "b": "00001000"}, ("after", "a", "b", 1, 3)), [])
        self.assertEqual(failures({"a": "01010000", "b": "00001000"}, ("after", "a", "b", 1, 2)), [1])


class Long(unittest.TestCase):
    """[7.1], [7.2]"""

    def test_stretches_but_the_first_and_the_last_one(self):
        self.assertEqual(failures({"a": "0100110"}, ("long", "a", "1", 2)), [1])
        self.assertEqual(failures({"a": "0100110"}, ("long", "a", "1", 3)), [1, 4])
        self.assertEqual(failures({"a": "0100110"}, ("long", "a", "0", 3)), [2])
        self.assertEqual(failures({"a": "0100110"}, ("long", "a", "0", 2)), [])

    def test_the_first_and_the_last_stretch_may_be_short(self):
        self.assertEqual(failures({"a": "1000001"}, ("long", "a", "1", 5)), [])
        self.assertEqual(failures({"a": "1000001"}, ("long", "a", "0", 5)), [])
        self.assertEqual(failures({"a": "1000001"}, ("long", "a", "0", 6)), [1])
        for wave in ("0", "1", "01", "10", "000", "0001"):
            for level in "01":
                self.assertEqual(failures({"a": wave}, ("long", "a", level, 12)), [])

    def test_a_level_whose_own_first_stretch_is_an_inner_one(self):
        self.assertEqual(failures({"a": "0101010"}, ("long", "a", "1", 2)), [1, 3, 5])
        self.assertEqual(failures({"a": "0101010"}, ("long", "a", "0", 2)), [2, 4])

    def test_one_tick_is_always_enough(self):
        self.assertEqual(failures({"a": "010101010101"}, ("long", "a", "1", 1)), [])
        self.assertEqual(failures({"a": "010101010101"}, ("long", "a", "1", 0)), [])

    def test_a_level_that_the_wave_has_not(self):
        self.assertEqual(failures({"a": "010"}, ("long", "a", "x", 12)), [])


class Still(unittest.TestCase):
    """[7.1], [7.2]"""

    def test_changes_at_ticks_at_which_the_other_is_high(self):
        self.assertEqual(failures({"a": "0110", "b": "0101"}, ("still", "a", "b")), [1, 3])
        self.assertEqual(failures({"a": "0110", "b": "0010"}, ("still", "a", "b")), [])
        self.assertEqual(failures({"a": "0101", "b": "1111"}, ("still", "a", "b")), [1, 2, 3])
        self.assertEqual(failures({"a": "0101", "b": "0000"}, ("still", "a", "b")), [])

    def test_the_first_tick_has_none_ahead(self):
        self.assertEqual(failures({"a": "1", "b": "1"}, ("still", "a", "b")), [])
        self.assertEqual(failures({"a": "1111", "b": "1111"}, ("still", "a", "b")), [])

    def test_the_last_tick(self):
        self.assertEqual(failures({"a": "000000000001", "b": "000000000001"}, ("still", "a", "b")), [11])


class Turns(unittest.TestCase):
    """[7.1], [7.2]"""

    def test_by_turns(self):
        self.assertEqual(failures({"a": "01000100", "b": "00010001"}, ("turns", "a", "b")), [])
        self.assertEqual(failures({"a": "01010100", "b": "00000001"}, ("turns", "a", "b")), [3, 5])

    def test_the_others_first(self):
        self.assertEqual(failures({"a": "00010", "b": "01001"}, ("turns", "a", "b")), [1])
        self.assertEqual(failures({"a": "00010", "b": "01001"}, ("turns", "b", "a")), [])

    def test_both_at_one_tick_whoever_has_the_turn_which_stays(self):
        self.assertEqual(failures({"a": "0100", "b": "0100"}, ("turns", "a", "b")), [1])
        self.assertEqual(failures({"a": "01010", "b": "01001"}, ("turns", "a", "b")), [1])
        self.assertEqual(failures({"a": "01001", "b": "01010"}, ("turns", "a", "b")), [1, 3])
        self.assertEqual(failures({"a": "0101000", "b": "0001010"}, ("turns", "a", "b")), [3])
        self.assertEqual(failures({"a": "0101010", "b": "0001000"}, ("turns", "a", "b")), [3, 5])

    def test_a_rise_out_of_turn_leaves_the_turn(self):
        self.assertEqual(failures({"a": "00010101", "b": "01000000"}, ("turns", "a", "b")), [1, 5, 7])

    def test_one_name_twice(self):
        self.assertEqual(failures({"a": "010101"}, ("turns", "a", "a")), [1, 3, 5])


class Failures(unittest.TestCase):
    """[7.2]"""

    def test_against_failures_told_tick_by_tick(self):
        for length in (1, 2, 3, 5):
            for one in waves_of(length, "01"):
                for other in waves_of(length, "01"):
                    sheet = {"a": one, "b": other}
                    for rule in RULES:
                        self.assertEqual(failures(sheet, rule), failures_by_hand(sheet, rule), (sheet, rule))

    def test_against_failures_told_tick_by_tick_of_long_waves(self):
        waves = ["010011010110", "001100110011", "101010101010", "011101000101", "000000000001", "111011110110"]
        for one in waves:
            for other in waves:
                sheet = {"a": one, "b": other, "c": "0" * 12}
                for rule in RULES + [("after", "a", "b", 2, 5), ("after", "b", "a", 4, 4)]:
                    self.assertEqual(failures(sheet, rule), failures_by_hand(sheet, rule), (sheet, rule))

    def test_other_waves_do_not_count(self):
        for rule in RULES:
            sheet = {"a": "01011010", "b": "00110101"}
            told = failures(sheet, rule)
            self.assertEqual(failures({"c": "1" * 8, **sheet, "": "01" * 4}, rule), told)

    def test_no_name(self):
        for rule in (("never", "a", "b"), ("after", "a", "b", 0, 1), ("still", "a", "b"), ("turns", "a", "b")):
            for sheet in ({}, {"a": "01"}, {"b": "01"}, {"c": "01"}, {"A": "01", "b": "11"}, {"a": "00", "bb": "11"}):
                for call in [failures] + ASKED:
                    refuses(self, NoName, call, sheet, rule)
        for sheet in ({}, {"b": "01"}, {"aa": "01"}, {"1": "01"}):
            for call in [failures] + ASKED:
                refuses(self, NoName, call, sheet, ("long", "a", "1", 2))

    def test_a_level_of_a_rule_is_no_name(self):
        for call in [failures] + ASKED:
            refuses(self, NoName, call, {"1": "01", "2": "01"}, ("long", "a", "1", 2))
            call({"a": "01"}, ("long", "a", "1", 2))

    def test_any_texts_are_names(self):
        sheet = {"": "11", "long": "01", "a b": "00"}
        self.assertEqual(failures(sheet, ("never", "", "long")), [1])
        self.assertEqual(failures(sheet, ("never", "a b", "long")), [])


class Verdict(unittest.TestCase):
    """[7.3], [0.2] (e)"""

    def test_words(self):
        rule = ("never", "a", "b")
        self.assertEqual(verdict({"a": "01x", "b": "100"}, rule), "kept")
        self.assertEqual(verdict({"a": "01x", "b": "110"}, rule), "broken")
        self.assertEqual(verdict({"a": "01x", "b": "101"}, rule), "open")
        self.assertEqual(verdict({"a": "01x", "b": "10x"}, rule), "open")

    def test_known_sheets_are_never_open(self):
        for one in waves_of(3, "01"):
            for other in waves_of(3, "01"):
                for rule in RULES:
                    sheet = {"a": one, "b": other}
                    self.assertEqual(verdict(sheet, rule), "kept" if failures(sheet, rule) == [] else "broken")

    def test_broken_whatever_it_is_though_nowhere_surely(self):
        sheet = {"a": "0x0", "b": "010"}
        rule = ("long", "a", "0", 2)
        self.assertEqual(verdict(sheet, rule), "kept")
        sheet = {"a": "00x100"}
        self.assertEqual(verdict(sheet, ("long", "a", "1", 3)), "broken")
        self.assertEqual(sure_failures(sheet, ("long", "a", "1", 3)), [])
        self.assertEqual([failures(known, ("long", "a", "1", 3)) for known in all_sheets(sheet)], [[3], [2]])

    def test_just_if_all_or_none_keep_the_rule(self):
        for one in waves_of(3):
            for other in waves_of(3):
                sheet = {"a": one, "b": other}
                for rule in RULES:
                    told = [failures_by_hand(known, rule) == [] for known in sheets_by_hand(sheet)]
                    expected = "kept" if all(told) else "open" if any(told) else "broken"
                    self.assertEqual(verdict(sheet, rule), expected, (sheet, rule))

    def test_stays_when_more_is_known(self):
        for one in waves_of(3):
            for other in ("0x1", "x01", "01x", "xx1"):
                sheet = {"a": one, "b": other}
                for rule in RULES:
                    told = verdict(sheet, rule)
                    for more in all_that_it_can_be(one):
                        if told != "open":
                            self.assertEqual(verdict({"a": more, "b": other}, rule), told)


class SureFailures(unittest.TestCase):
    """[7.3]"""

    def test_just_those_of_all(self):
        self.assertEqual(sure_failures({"a": "1x1x", "b": "1111"}, ("never", "a", "b")), [0, 2])
        self.assertEqual(sure_failures({"a": "xxxx", "b": "1111"}, ("never", "a", "b")), [])
        self.assertEqual(sure_failures({"a": "0101", "b": "xx11"}, ("still", "a", "b")), [2, 3])
        self.assertEqual(sure_failures({"a": "01", "b": "01"}, ("turns", "a", "b")), [1])

    def test_against_all_that_it_can_be(self):
        for one in waves_of(3):
            for other in waves_of(3):
                sheet = {"a": one, "b": other}
                for rule in RULES:
                    told = [set(failures_by_hand(known, rule)) for known in sheets_by_hand(sheet)]
                    self.assertEqual(sure_failures(sheet, rule), sorted(set.intersection(*told)), (sheet, rule))


class ToldBy(unittest.TestCase):
    """[7.3]"""

    def test_what_a_rule_tells(self):
        self.assertEqual(told_by({"a": "1x0x", "b": "x1xx"}, ("never", "a", "b")), {"a": "100x", "b": "01xx"})
        self.assertEqual(told_by({"a": "0010", "b": "00x0"}, ("after", "a", "b", 0, 0)), {"a": "0010", "b": "0010"})
        self.assertEqual(told_by({"a": "01x0"}, ("long", "a", "1", 2)), {"a": "0110"})
        self.assertEqual(told_by({"a": "0x", "b": "x1"}, ("still", "a", "b")), {"a": "00", "b": "x1"})

    def test_other_waves_stay_as_they_are(self):
        sheet = {"c": "x0x1", "a": "1111", "b": "0x0x", "d": "1x00"}
        self.assertEqual(told_by(sheet, ("never", "a", "b")), {"c": "x0x1", "a": "1111", "b": "0000", "d": "1x00"})

    def test_none_where_no_sheet_keeps_it(self):
        self.assertIsNone(told_by({"a": "x1", "b": "x1"}, ("never", "a", "b")))
        self.assertIsNone(told_by({"a": "00x100"}, ("long", "a", "1", 3)))
        self.assertIsNone(told_by({"a": "1", "b": "1"}, ("never", "a", "b")))

    def test_known_sheets(self):
        self.assertEqual(told_by({"a": "10", "b": "01"}, ("never", "a", "b")), {"a": "10", "b": "01"})

    def test_against_all_that_it_can_be(self):
        for one in waves_of(3):
            for other in waves_of(3):
                sheet = {"a": one, "b": other}
                for rule in RULES:
                    keeping = [known for known in sheets_by_hand(sheet) if failures_by_hand(known, rule) == []]
                    self.assertEqual(told_by(sheet, rule), self.alike(keeping), (sheet, rule))

    def alike(self, sheets):
        if not sheets:
            return None
        told = {}
        for name in sheets[0]:
            signs = [set(levels) for levels in zip(*[sheet[name] for sheet in sheets])]
            told[name] = "".join([min(levels) if len(levels) == 1 else "x" for levels in signs])
        return told

    def test_the_sheet_fits_what_is_told(self):
        for one in waves_of(3):
            sheet = {"a": one, "b": "0x1"}
            for rule in RULES:
                told = told_by(sheet, rule)
                if told is not None:
                    self.assertIs(sheet_fits(sheet, told), True)


class ManyUnknown(unittest.TestCase):
    """[7.3]: TooLong, where more than 6 levels of the sheet are not known"""

    def test_six_in_one_wave_and_in_several(self):
        for sheet in ({"a": "xxxxxx", "b": "111111"}, {"a": "xxx111", "b": "x1111x", "c": "00x000"},
                      {"a": "x0", "b": "11", "c": "xx", "d": "xx", "e": "x1"}):
            rule = ("never", "a", "b")
            self.assertEqual(verdict(sheet, rule), verdict(dict(sheet, c="0" * len(sheet["a"])), rule))
            self.assertEqual(sure_failures(sheet, rule), failures_by_hand(sheet, rule))
        told = told_by({"a": "xxxxxx", "b": "110011"}, ("never", "a", "b"))
        self.assertEqual(told, {"a": "00xx00", "b": "110011"})

    def test_seven_in_one_wave_and_in_several(self):
        for sheet in ({"a": "xxxxxxx", "b": "1111111"}, {"a": "1111111", "b": "xxxxxxx"},
                      {"a": "xxx1111", "b": "x111xxx"},
                      {"a": "00", "b": "11", "c": "xx", "d": "xx", "e": "xx", "f": "x1"},
                      {"a": "0000000", "b": "0000000", "c": "xxxxxxx"}, {"a": "x" * 12, "b": "x" * 12}):
            for call in ASKED:
                for rule in RULES:
                    refuses(self, TooLong, call, sheet, rule)

    def test_a_name_that_no_wave_has_is_refused_first(self):
        for call in ASKED:
            refuses(self, NoName, call, {"a": "x" * 7}, ("never", "a", "b"))
            refuses(self, NoName, call, {"b": "x" * 7}, ("long", "a", "1", 2))


class ToldAnew(unittest.TestCase):
    """[0.3]"""

    def test_told_lists_and_dicts_are_new_ones(self):
        for sheet in ({"a": "0101", "b": "0110"}, {"a": "0x01", "b": "x110"}):
            for rule in RULES:
                tells_a_new_list(self, sure_failures, sheet, rule)
        for rule in RULES:
            tells_a_new_list(self, failures, {"a": "0101", "b": "0110"}, rule)
        tells_a_new_dict(self, told_by, {"a": "01x1", "b": "0x10"}, ("never", "a", "b"))
        tells_a_new_dict(self, told_by, {"a": "0101", "b": "0010"}, ("never", "a", "b"))

    def test_handed_in_sheets_are_not_changed_and_not_told_back(self):
        for call in ASKED + [failures]:
            sheet = {"a": "0101", "b": "0010"}
            call(sheet, ("never", "a", "b"))
            self.assertEqual(sheet, {"a": "0101", "b": "0010"})
            self.assertEqual(list(sheet), ["a", "b"])
        sheet = {"a": "0101", "b": "0010"}
        told = told_by(sheet, ("never", "a", "b"))
        self.assertIsNot(told, sheet)
        told["a"] = "1111"
        self.assertEqual(sheet, {"a": "0101", "b": "0010"})
        sheet = {"a": "01x1", "b": "x010"}
        for call in ASKED:
            call(sheet, ("never", "a", "b"))
        self.assertEqual(sheet, {"a": "01x1", "b": "x010"})

    def test_kinds_of_what_is_told(self):
        sheet = {"a": "0101", "b": "0110"}
        self.assertEqual([type(tick) for tick in failures(sheet, ("never", "a", "b"))], [int])
        self.assertIs(type(verdict(sheet, ("never", "a", "b"))), str)


if __name__ == "__main__":
    unittest.main()
