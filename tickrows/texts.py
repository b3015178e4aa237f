"""Texts of waves and sheets, and what is read from them."""

from tickrows.errors import NoText
from tickrows.waves import is_wave, of_one_length

LETTERS = "abcdefghijklmnopqrstuvwxyz"
MOST_LETTERS = 4
SAME = "."


def is_name(thing):
    if not isinstance(thing, str) or not 1 <= len(thing) <= MOST_LETTERS:
        return False
    return all([sign in LETTERS for sign in thing])


def wave_text(wave):
    return "".join([sign_at(wave, tick) for tick in range(len(wave))])


def sign_at(wave, tick):
    return SAME if tick > 0 and wave[tick] == wave[tick - 1] else wave[tick]


def read_wave(text):
    # What is read is only a guess; it holds where its own writing is the very text.
    wave = levels_read(text)
    if not is_wave(wave) or wave_text(wave) != text:
        raise NoText(f"{text!r} is no writing of a wave")
    return wave


def levels_read(text):
    wave = ""
    for sign in text:
        wave += wave[-1:] if sign == SAME else sign
    return wave


def sheet_text(sheet):
    return "".join([f"{name} {text}\n" for name, text in written_waves(sheet)])


def written_waves(sheet):
    return [(name, wave_text(sheet[name])) for name in sorted(sheet)]


def read_sheet(text):
    sheet = {}
    for line in text.split("\n")[:-1]:
        words = line.split(" ")
        if len(words) != 2 or not is_name(words[0]):
            raise NoText(f"{line!r} is no line of a sheet")
        sheet[words[0]] = read_wave(words[1])
    # Lines in another order, told twice or without an end are read too, but not written so.
    if not of_one_length(list(sheet.values())) or sheet_text(sheet) != text:
        raise NoText("the text is no writing of a sheet")
    return sheet
