import inspect
import unittest
from importlib import import_module

from all_waves import all_that_it_can_be, waves_of, waves_up_to
from tickrows.boards import Board, board_text, read_board
from tickrows.buses import of_values, value_bounds, value_changes, values_of
from tickrows.clocks import clock, counted, held
from tickrows.gates import both, chosen, either, no, unlike
from tickrows.measures import distance, longest, nearest_turn, periods, tally
from tickrows.patches import merged, patch, patched
from tickrows.pictures import picture, read_picture
from tickrows.rules import failures, told_by, verdict
from tickrows.sheets import all_sheets, differing, sheet_fits
from tickrows.steady import count_steady, cost_of, is_steady, number_of, steadied, steady
from tickrows.texts import read_sheet, read_wave, sheet_text, wave_text
from tickrows.unknown import all_known, found, in_common, led_together
from tickrows.waves import changes, joined, of_spans, part, rises, spans, with_level
from tickrows.windows import all_high, changes_between, rolled, window_counts, windows

# How many arguments each name of the interface takes.
INTERFACE = {
    "waves": {"is_wave": 1, "is_known": 1, "level_at": 2, "with_level": 3, "changes": 1, "rises": 1, "falls": 1,
              "spans": 1, "of_spans": 1, "joined": 2, "slower": 2, "later": 3, "turned_about": 1, "part": 3},
    "gates": {"no": 1, "both": 2, "either": 2, "unlike": 2, "chosen": 3},
    "clocks": {"clock": 4, "beats": 1, "sampled": 2, "held": 3, "let_by": 3, "counted": 2},
    "unknown": {"fits": 2, "all_known": 1, "clashing": 2, "led_together": 2, "in_common": 2, "found": 2},
    "pictures": {"picture": 1, "read_picture": 1},
    "sheets": {"length_of": 1, "with_wave": 3, "wave_of": 2, "without_wave": 2, "levels_at": 2, "differing": 2,
               "unknown_of": 1, "sheets_joined": 2, "all_sheets": 1, "sheet_is_known": 1, "sheet_fits": 2},
    "rules": {"failures": 2, "verdict": 2, "sure_failures": 2, "told_by": 2},
    "steady": {"is_steady": 2, "count_steady": 2, "steady": 3, "number_of": 2, "cost_of": 2, "steadied": 2},
    "texts": {"wave_text": 1, "read_wave": 1, "sheet_text": 1, "read_sheet": 1},
    "measures": {"tally": 1, "longest": 2, "distance": 2, "periods": 1, "nearest_turn": 2},
    "patches": {"patch": 2, "patched": 2, "merged": 3, "contested": 3},
    "boards": {"Board": 0, "board_text": 1, "read_board": 1},
    "buses": {"values_of": 1, "value_bounds": 1, "value_changes": 1, "of_values": 2},
    "windows": {"windows": 2, "window_counts": 2, "rolled": 2, "changes_between": 2, "all_high": 1},
}
METHODS = {"put": 2, "gate": 3, "take": 1, "sheet": 0, "steps": 0, "back": 0, "forth": 0, "sizes": 0, "twin": 0}
REFUSALS = ["NoTick", "Unlike", "Clash", "TooLong", "NoWave", "NoName", "NoText", "NoBack"]

LONG_WAVES = ["0" * 12, "x" * 12, "01" * 6, "001x" * 3, "0110" * 3, "010011010110", "00000x000000", "111111000000"]
PAIRS = [(one, other) for one in waves_of(3) for other in waves_of(3)]
KNOWN_PAIRS = [(one, other) for one in waves_of(5, "01") for other in waves_of(5, "01")]


class Interface(unittest.TestCase):
    """The names, arguments and kinds of the interface."""

    def test_every_name_takes_its_arguments(self):
        for name, calls in INTERFACE.items():
            module = import_module(f"tickrows.{name}")
            for call, many in calls.items():
                self.assertEqual(len(inspect.signature(getattr(module, call)).parameters), many, call)

    def test_every_method_takes_its_arguments(self):
        for name, many in METHODS.items():
            self.assertEqual(len(inspect.signature(getattr(Board(), name)).parameters), many, name)

    def test_refusals_stand_under_tick_error_and_none_under_another(self):
        errors = import_module("tickrows.errors")
        self.assertEqual(errors.TickError.__bases__, (ValueError,))
        for name in REFUSALS:
            self.assertEqual(getattr(errors, name).__bases__, (errors.TickError,))


class Points(unittest.TestCase):
    """[0.2]"""

    def test_a_stretches_come_to_the_wave_and_parts_joined_are_the_wave(self):
        for wave in waves_up_to(5) + LONG_WAVES:
            self.assertEqual(of_spans([(many, level) for tick, many, level in spans(wave)]), wave)
            for tick in range(1, len(wave)):
                self.assertEqual(joined(part(wave, 0, tick), part(wave, tick, len(wave))), wave)

    def test_b_gates_are_known_just_where_it_is_the_same_whatever_levels_are(self):
        for gate, many in ((no, 1), (both, 2), (either, 2), (unlike, 2), (chosen, 3)):
            for levels in waves_of(many):
                told = {gate(*known) for known in all_that_it_can_be(levels)}
                self.assertEqual(gate(*levels), told.pop() if len(told) == 1 else "x", (gate.__name__, levels))

    def test_c_held_changes_only_at_rises_and_hangs_on_what_was_right_ahead(self):
        for wave in waves_of(4):
            for beat in waves_of(4, "01"):
                told = held(wave, beat, "x")
                self.assertLessEqual({tick for tick, ahead, level in changes(told)}, set(rises(beat)))
                for tick in range(4):
                    if tick + 1 not in rises(beat):
                        self.assertEqual(held(with_level(wave, tick, "1"), beat, "x"), told)

    def test_d_led_together_and_in_common(self):
        for one, other in PAIRS:
            shared = set(all_known(one)) & set(all_known(other))
            if shared:
                self.assertEqual(set(all_known(led_together(one, other))), shared)
            self.assertLessEqual(set(all_known(one)) | set(all_known(other)), set(all_known(in_common(one, other))))

    def test_e_verdicts_are_of_all_that_a_sheet_can_be(self):
        for one, other in PAIRS:
            sheet = {"a": one, "b": other}
            for rule in (("never", "a", "b"), ("still", "a", "b"), ("after", "a", "b", 0, 1), ("long", "a", "0", 2)):
                kept = [failures(known, rule) == [] for known in all_sheets(sheet)]
                word = verdict(sheet, rule)
                self.assertEqual(word, "kept" if all(kept) else "open" if any(kept) else "broken")
                if word != "open":
                    self.assertEqual({verdict(known, rule) for known in all_sheets(sheet)}, {word})

    def test_f_steady_waves_are_numbered_and_none_is_had_by_fewer_changes(self):
        for many in (1, 2, 3):
            told = [steady(6, many, number) for number in range(count_steady(6, many))]
            self.assertEqual(told, [wave for wave in waves_of(6, "01") if is_steady(wave, many)])
            self.assertEqual([number_of(wave, many) for wave in told], list(range(len(told))))
            for wave in waves_of(6, "01x")[::7]:
                self.assertEqual(steadied(wave, many)[0], min(cost_of(wave, other) for other in told))

    def test_g_pictures_and_texts_read_back(self):
        for wave in waves_up_to(5) + LONG_WAVES:
            self.assertEqual(read_picture(picture(wave)), wave)
            self.assertEqual(read_wave(wave_text(wave)), wave)
            self.assertEqual(read_sheet(sheet_text({"b": wave, "a": no(wave)})), {"a": no(wave), "b": wave})

    def test_h_patches_lead_on_and_both_are_merged_whichever_is_first(self):
        for one, other in PAIRS:
            self.assertEqual(patched(one, patch(one, other)), other)
            self.assertEqual(sum(len(levels) for tick, levels in patch(one, other)), distance(one, other))
            self.assertEqual(merged(one, one, other), other)
            self.assertEqual(merged(one, other, one), other)

    def test_i_boards_go_back_and_forth_and_texts_make_them_again(self):
        board = Board()
        board.put("a", "00x1")
        board.gate("b", "no", ("a",))
        board.take("a")
        text = board_text(board)
        sheets = [board.sheet()]
        while board.sizes()[0]:
            board.back()
            sheets.append(board.sheet())
        self.assertEqual(sheets, [{"b": "11x0"}, {"a": "00x1", "b": "11x0"}, {"a": "00x1"}, {}])
        while board.sizes()[1]:
            board.forth()
        self.assertEqual(board_text(board), text)
        again = read_board(text)
        self.assertEqual((again.sheet(), again.steps(), again.sizes()), (board.sheet(), board.steps(), board.sizes()))

    def test_j_numbers_read_from_waves_made_of_numbers_are_these(self):
        for numbers in ([0, 5, None, 7], [None], list(range(8)), (3, 3, 0)):
            self.assertEqual(values_of(of_values(numbers, 3)), list(numbers))


class Together(unittest.TestCase):
    """[0.1]: what one part of the program tells agrees with what another one tells."""

    def test_never_fails_just_where_all_are_high(self):
        for one, other in KNOWN_PAIRS:
            self.assertEqual(failures({"a": one, "b": other}, ("never", "a", "b")), all_high([one, other]))

    def test_a_wave_is_steady_just_if_it_is_long_in_both_levels(self):
        for wave in waves_up_to(7, "01"):
            for many in (1, 2, 3):
                told = [failures({"a": wave}, ("long", "a", level, many)) for level in "01"]
                self.assertIs(is_steady(wave, many), told == [[], []])

    def test_counted_waves_make_the_number_of_rises(self):
        for beat in waves_of(7, "01"):
            expected = [len([rise for rise in rises(beat) if rise <= tick]) for tick in range(7)]
            self.assertEqual(values_of(counted(beat, 2)), expected)
            self.assertEqual(of_values(expected, 2), counted(beat, 2))
            self.assertEqual(value_changes(counted(beat, 2)), rises(beat))

    def test_bounds_are_those_of_all_sheets(self):
        for one, other in PAIRS:
            numbers = [values_of([sheet["a"], sheet["b"]]) for sheet in all_sheets({"a": one, "b": other})]
            expected = [(min(row), max(row)) for row in zip(*numbers)]
            self.assertEqual(value_bounds([one, other]), expected)

    def test_turns_and_periods_are_rolled_waves(self):
        for one, other in PAIRS:
            least = min(distance(rolled(one, by), other) for by in range(3))
            self.assertEqual(distance(rolled(one, -nearest_turn(one, other)), other), least)
        for wave in waves_of(6):
            for many in periods(wave):
                self.assertEqual(wave[many:], wave[:6 - many])

    def test_parts_are_found_where_they_are(self):
        for wave in waves_of(5, "01"):
            for many in range(1, 6):
                told = windows(wave, many)
                self.assertEqual(told, [part(wave, tick, many) for tick in range(6 - many)])
                for own, count in window_counts(wave, many):
                    self.assertEqual(len(found(own, wave)), count)

    def test_all_changes_lie_between_rises(self):
        for wave, beat in PAIRS:
            self.assertEqual(sum(changes_between(wave, beat)), len(changes(wave)))
            self.assertEqual(len(changes_between(wave, beat)), len(rises(beat)) + 1)

    def test_stretches_tell_the_longest_and_the_tally(self):
        for wave in waves_up_to(5):
            for place, level in enumerate("01x"):
                own = [many for tick, many, sign in spans(wave) if sign == level]
                self.assertEqual(tally(wave)[place], sum(own))
                self.assertEqual(longest(wave, level) is None, own == [])
                if own:
                    self.assertEqual(longest(wave, level)[1], max(own))

    def test_what_a_rule_tells_fits_the_sheet_and_is_not_broken(self):
        for one, other in PAIRS:
            sheet = {"a": one, "b": other}
            rule = ("turns", "a", "b")
            told = told_by(sheet, rule)
            self.assertEqual(told is None, verdict(sheet, rule) == "broken")
            if told is not None:
                self.assertIs(sheet_fits(sheet, told), True)
                self.assertNotEqual(verdict(told, rule), "broken")

    def test_a_board_s_sheet_is_a_sheet(self):
        board = read_board("beat = 01\nbeat = 0.1.0.1.\nd = 01.0..1.\nq = both beat d\nr = unlike q beat\n- d\n")
        sheet = board.sheet()
        self.assertEqual(sheet["beat"], clock(2, 2, 0, 8))
        self.assertEqual(read_sheet(sheet_text(sheet)), sheet)
        self.assertEqual(differing(sheet, read_sheet(sheet_text(sheet))), [])
        self.assertEqual(sheet, {"beat": "00110011", "q": "00100011", "r": "00010000"})


if __name__ == "__main__":
    unittest.main()
