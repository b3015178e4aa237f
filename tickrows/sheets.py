"""Sheets: dicts from names to waves of one length."""

from tickrows.errors import NoName
from tickrows.unknown import all_known, fits, led_together
from tickrows.waves import level_at, refuse_unlike


def length_of(sheet):
    return max([len(wave) for wave in sheet.values()], default=0)


def with_wave(sheet, name, wave):
    refuse_unlike([wave] + [sheet[other] for other in sheet if other != name])
    return with_name(sheet, name, wave)


def with_name(sheet, name, wave):
    told = dict(sheet)
    told[name] = wave
    return told


def wave_of(sheet, name):
    if name not in sheet:
        raise NoName(f"no wave is called {name!r}")
    return sheet[name]


def without_wave(sheet, name):
    wave_of(sheet, name)
    told = dict(sheet)
    told.pop(name)
    return told


def levels_at(sheet, tick):
    levels = {}
    for name, wave in sheet.items():
        levels[name] = level_at(wave, tick)
    return levels


def differing(one, other):
    rows = []
    for name in sorted(set(one) | set(other)):
        # A wave that is not there has no level anywhere.
        ticks = differing_ticks(one.get(name, ""), other.get(name, ""))
        rows.extend([(name, tick) for tick in ticks])
    return rows


def differing_ticks(first, second):
    # Slices, unlike indexes, tell the empty text behind a wave's end.
    most = max(len(first), len(second))
    return [tick for tick in range(most) if first[tick:tick + 1] != second[tick:tick + 1]]


def unknown_of(sheet):
    return sum([wave.count("x") for wave in sheet.values()])


def sheet_is_known(sheet):
    return unknown_of(sheet) == 0


def sheet_fits(sheet, known):
    if set(sheet) != set(known):
        return False
    return all([fits_at_length(wave, known[name]) for name, wave in sheet.items()])


def fits_at_length(wave, known):
    return len(wave) == len(known) and fits(wave, known)


def sheets_joined(one, other):
    refuse_unlike(list(one.values()) + list(other.values()))
    told = dict(one)
    for name, wave in other.items():
        told[name] = led_together(one[name], wave) if name in one else wave
    return told


def all_sheets(sheet):
    # All waves are asked ahead of the first sheet, so that a refusal comes soon.
    choices = [(name, all_known(wave)) for name, wave in sheet.items()]
    sheets = [{}]
    for name, waves in choices:
        sheets = with_each_wave(sheets, name, waves)
    return sheets


def with_each_wave(sheets, name, waves):
    told = []
    for sheet in sheets:
        told.extend([with_name(sheet, name, wave) for wave in waves])
    return told
