"""Rules that must stand between waves, with verdicts over all that unknown levels can be."""

from tickrows.errors import TooLong
from tickrows.gates import both
from tickrows.sheets import all_sheets, unknown_of, wave_of
from tickrows.unknown import MOST_UNKNOWN, in_common
from tickrows.waves import changes, inner_spans, rises


def failures(sheet, rule):
    word = rule[0]
    waves = ruled_waves(sheet, rule)
    one = waves[0]
    other = waves[-1]
    if word == "never":
        return ticks_both_high(one, other)
    if word == "after":
        return rises_not_followed(one, other, rule[3], rule[4])
    if word == "long":
        return short_stretches(one, rule[2], rule[3])
    if word == "still":
        return changes_under_high(one, other)
    return rises_out_of_turn(one, other)


def ruled_waves(sheet, rule):
    names = rule[1:2] if rule[0] == "long" else rule[1:3]
    return [wave_of(sheet, name) for name in names]


def ticks_both_high(one, other):
    return [tick for tick, level in enumerate(both(one, other)) if level == "1"]


def rises_not_followed(one, other, low, high):
    marks = rises(other)
    # Where the wave ends ahead of the last of the later ticks, the rise may still come behind its end.
    judged = [tick for tick in rises(one) if tick + high < len(one)]
    return [tick for tick in judged if not any([tick + low <= mark <= tick + high for mark in marks])]


def short_stretches(wave, level, many):
    return [tick for tick, ticks, own in inner_spans(wave) if own == level and ticks < many]


def changes_under_high(one, other):
    return [tick for tick, ahead, level in changes(one) if other[tick] == "1"]


def rises_out_of_turn(one, other):
    firsts = rises(one)
    seconds = rises(other)
    wrong = []
    turn_of_one = True
    for tick in sorted(set(firsts) | set(seconds)):
        # A tick at which both rise is wrong as well: the one whose turn it is not rises there.
        if tick in (seconds if turn_of_one else firsts):
            wrong.append(tick)
        else:
            turn_of_one = not turn_of_one
    return wrong


def verdict(sheet, rule):
    told = failures_of_all(sheet, rule)
    if [] not in told:
        return "broken"
    return "kept" if all([ticks == [] for ticks in told]) else "open"


def sure_failures(sheet, rule):
    told = failures_of_all(sheet, rule)
    return [tick for tick in told[0] if all([tick in ticks for ticks in told])]


def told_by(sheet, rule):
    keeping = [known for known in known_sheets(sheet, rule) if failures(known, rule) == []]
    if keeping == []:
        return None
    told = keeping[0]
    for known in keeping[1:]:
        told = sheets_in_common(told, known)
    return told


def failures_of_all(sheet, rule):
    return [failures(known, rule) for known in known_sheets(sheet, rule)]


def known_sheets(sheet, rule):
    # A name that no wave has is refused ahead of too many unknown levels.
    ruled_waves(sheet, rule)
    if unknown_of(sheet) > MOST_UNKNOWN:
        raise TooLong(f"more than {MOST_UNKNOWN} levels of the sheet are not known")
    return all_sheets(sheet)


def sheets_in_common(one, other):
    told = {}
    for name, wave in one.items():
        told[name] = in_common(wave, other[name])
    return told
