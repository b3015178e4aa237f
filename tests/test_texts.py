import re
import unittest
from itertools import product

from all_waves import waves_up_to
from edits import SIGNS, with_one_edit, with_one_line_edit
from refusals import refuses, tells_a_new_dict
from tickrows.errors import NoText
from tickrows.texts import read_sheet, read_wave, sheet_text, wave_text

WRITINGS = {"0": "0", "1": "1", "x": "x", "00": "0.", "01": "01", "xx": "x.", "0x": "0x", "001110": "0.1..0",
            "00111x": "0.1..x", "0" * 12: "0...........", "01" * 6: "01" * 6, "001100110011": "0.1.0.1.0.1.",
            "1xxx00x11111": "1x..0.x1...."}
SHEETS = {"": {}, "a 0\n": {"a": "0"}, "abcd x.\n": {"abcd": "xx"}, "a 0.\nb 1.\n": {"b": "11", "a": "00"},
          "ab 01\nb 0.\nba x1\n": {"ba": "x1", "b": "00", "ab": "01"},
          "a 0...........\naz 01x01x01x01x\nzzzz 1....0......\n":
              {"zzzz": "111110000000", "az": "01x" * 4, "a": "0" * 12}}


def written_by_hand(wave):
    return wave[0] + "".join(["." if ahead == level else level for ahead, level in zip(wave, wave[1:])])


def wave_by_hand(text):
    """The wave of a writing, None of another text."""
    if not re.fullmatch(r"[01x][01x.]{0,11}", text):
        return None
    wave = text[0]
    for sign in text[1:]:
        if sign == wave[-1]:
            return None
        wave += wave[-1] if sign == "." else sign
    return wave


def sheet_by_hand(text):
    """The sheet of a writing, None of another text."""
    if not re.fullmatch(r"([a-z]{1,4} [01x.]+\n)*", text):
        return None
    rows = [line.split(" ") for line in text.split("\n")[:-1]]
    names = [name for name, writing in rows]
    waves = [wave_by_hand(writing) for name, writing in rows]
    if None in waves or len({len(wave) for wave in waves}) > 1 or names != sorted(set(names)):
        return None
    return dict(zip(names, waves))


class WaveText(unittest.TestCase):
    """[9.1]"""

    def test_writings(self):
        for wave, text in WRITINGS.items():
            self.assertEqual(wave_text(wave), text)
            self.assertIs(type(wave_text(wave)), str)

    def test_all_short_waves(self):
        for wave in waves_up_to(6):
            self.assertEqual(wave_text(wave), written_by_hand(wave))


class ReadWave(unittest.TestCase):
    """[9.2], [0.2] (g)"""

    def test_writings_are_read_back(self):
        for wave, text in WRITINGS.items():
            self.assertEqual(read_wave(text), wave)
        for wave in waves_up_to(6):
            self.assertEqual(read_wave(wave_text(wave)), wave)

    def test_no_other_text(self):
        for text in ("", ".", "..", ".0", "00", "0.0", "0..0", "xx", "x.x", "11", "0 ", " 0", "0\n", "\n0", "0.1..x ",
                     "X", "O", "2", "0,", "0-", "a 0", "0 1", "01.1", "no", "0.\n", "_",
                     "0" + "." * 12, "01" * 6 + "0"):
            refuses(self, NoText, read_wave, text)

    def test_all_short_texts(self):
        for length in range(7):
            for signs in product("01x.", repeat=length):
                self.reads_just_writings("".join(signs))

    def test_a_sign_put_in_taken_out_or_exchanged(self):
        for text in WRITINGS.values():
            for edited in with_one_edit(text, SIGNS):
                self.reads_just_writings(edited)

    def reads_just_writings(self, text):
        wave = wave_by_hand(text)
        if wave is None:
            refuses(self, NoText, read_wave, text)
        else:
            self.assertEqual(read_wave(text), wave)

    def test_12_and_13_ticks(self):
        self.assertEqual(read_wave("0" + "." * 11), "0" * 12)
        refuses(self, NoText, read_wave, "0" + "." * 12)
        refuses(self, NoText, read_wave, "0" + "." * 100)


class SheetText(unittest.TestCase):
    """[9.1]"""

    def test_a_line_for_each_wave_by_names_rising(self):
        for text, sheet in SHEETS.items():
            self.assertEqual(sheet_text(sheet), text)

    def test_whatever_order_the_names_came_in(self):
        names = ["b", "ab", "a", "abc", "z", "zz"]
        sheet = {name: "0x" for name in names}
        turned = {name: "0x" for name in reversed(names)}
        self.assertEqual(sheet_text(sheet), "a 0x\nab 0x\nabc 0x\nb 0x\nz 0x\nzz 0x\n")
        self.assertEqual(sheet_text(turned), sheet_text(sheet))

    def test_handed_in_sheets_are_not_changed(self):
        sheet = {"b": "00", "a": "01"}
        sheet_text(sheet)
        self.assertEqual(list(sheet.items()), [("b", "00"), ("a", "01")])


class ReadSheet(unittest.TestCase):
    """[9.2], [0.2] (g)"""

    def test_writings_are_read_back(self):
        for text, sheet in SHEETS.items():
            self.assertEqual(read_sheet(text), sheet)
        for one in waves_up_to(3):
            for other in ("0" * len(one), "x1x"[:len(one)]):
                sheet = {"q": one, "p": other, "pqrs": one}
                self.assertEqual(read_sheet(sheet_text(sheet)), sheet)

    def test_the_empty_text_is_the_sheet_without_waves(self):
        self.assertEqual(read_sheet(""), {})
        self.assertEqual(sheet_text({}), "")

    def test_names_of_1_to_4_letters(self):
        for name in ("a", "z", "ab", "zy", "abc", "abcd", "zzzz"):
            self.assertEqual(read_sheet(f"{name} 0.\n"), {name: "00"})
        for name in ("", "abcde", "abcdef", "A", "aB", "a1", "1", "x.", "a_b", "-", "=", "a-", "0", "{", "`", "@", "["):
            refuses(self, NoText, read_sheet, f"{name} 0.\n")

    def test_waves_of_unlike_lengths(self):
        for text in ("a 0\nb 01\n", "a 01\nb 0\n", "a 0.\nb 0..\n", "a 0.\nb 0.\nc 0\n", "a 0\nb 0.\nc 0\n"):
            refuses(self, NoText, read_sheet, text)

    def test_names_that_do_not_rise(self):
        for text in ("b 0\na 0\n", "a 0\na 0\n", "a 0\na 1\n", "b 0\nab 0\n", "a 0\nc 0\nb 0\n", "ab 0\na 0\n"):
            refuses(self, NoText, read_sheet, text)

    def test_lines_that_are_none(self):
        for text in ("a 0", "\n", "a 0\n\n", "\na 0\n", "a 0\n\nb 0\n", "a\n", "a \n", " 0\n", "a  0\n", "a 0 \n",
                     " a 0\n", "a 00\n", "a .\n", "a 0.0\n", "a 0 1\n", "a 0b 0\n", "a 0\nb 0", "a=0\n", "a = 0\n",
                     "- a\n", "0\n",
                     "a 0" + "." * 12 + "\n", " ", "a", "a 2\n", "a\n0\n"):
            refuses(self, NoText, read_sheet, text)

    def test_a_sign_put_in_taken_out_or_exchanged(self):
        for text in SHEETS:
            for edited in with_one_edit(text, SIGNS):
                self.reads_just_writings(edited)

    def test_lines_left_out_told_twice_or_exchanged(self):
        for text in SHEETS:
            for edited in with_one_line_edit(text):
                self.reads_just_writings(edited)

    def test_all_short_texts_of_some_signs(self):
        for length in range(7):
            for signs in product("ab 0.\n", repeat=length):
                self.reads_just_writings("".join(signs))

    def reads_just_writings(self, text):
        sheet = sheet_by_hand(text)
        if sheet is None:
            refuses(self, NoText, read_sheet, text)
        else:
            self.assertEqual(read_sheet(text), sheet)

    def test_told_dicts_are_new_ones(self):
        for text in SHEETS:
            tells_a_new_dict(self, read_sheet, text)


class BeyondTheBounds(unittest.TestCase):
    """The interface: nothing is refused for what lies somewhat beyond a bound, unless a point says so."""

    def test_waves_of_no_tick_and_of_more_than_12_are_written(self):
        self.assertEqual(wave_text(""), "")
        self.assertEqual(wave_text("0" * 13 + "1"), "0" + "." * 12 + "1")

    def test_other_names_are_written(self):
        self.assertEqual(sheet_text({"abcde": "0", "B": "1"}), "B 1\nabcde 0\n")


if __name__ == "__main__":
    unittest.main()
