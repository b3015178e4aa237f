"""Parts of waves, looked at one by one."""

from tickrows.errors import TooLong
from tickrows.waves import changes, common_length, first_ticks_behind, refuse_unlike, rises


def windows(wave, many):
    if not 1 <= many <= len(wave):
        raise TooLong(f"no part of the wave has {many} ticks")
    return [wave[tick:tick + many] for tick in range(len(wave) - many + 1)]


def window_counts(wave, many):
    parts = windows(wave, many)
    return [(part, parts.count(part)) for part in sorted(set(parts))]


def rolled(wave, by):
    # So many ticks later, round and round, is as many first ticks behind all others the other way round.
    return first_ticks_behind(wave, -by % max(len(wave), 1))


def changes_between(wave, beat):
    refuse_unlike([wave, beat])
    ticks = [tick for tick, ahead, level in changes(wave)]
    marks = rises(beat)
    return [count_within(ticks, start, end) for start, end in zip([0] + marks, marks + [len(wave)])]


def count_within(ticks, start, end):
    return len([tick for tick in ticks if start <= tick < end])


def all_high(waves):
    return [tick for tick in range(common_length(waves)) if all([wave[tick] == "1" for wave in waves])]
