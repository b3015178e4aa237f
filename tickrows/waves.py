"""Waves: texts of 1 to 12 signs, the levels 0, 1 and x, tick by tick."""

from tickrows.errors import NoTick, TooLong, Unlike

LEVELS = "01x"
MOST_TICKS = 12


def is_wave(thing):
    if not isinstance(thing, str):
        return False
    if not 1 <= len(thing) <= MOST_TICKS:
        return False
    return are_levels(thing)


def are_levels(signs):
    return all([sign in LEVELS for sign in signs])


def is_known(wave):
    return "x" not in wave


def refuse_no_tick(wave, tick):
    # Python's own indexes below 0 count from the end, but no tick has such a number.
    if not 0 <= tick < len(wave):
        raise NoTick(f"no tick is numbered {tick}")


def of_one_length(waves):
    return all([len(wave) == len(waves[0]) for wave in waves])


def refuse_unlike(waves):
    if not of_one_length(waves):
        raise Unlike("the waves have unlike lengths")


def common_length(waves):
    refuse_unlike(waves)
    return max([len(wave) for wave in waves], default=0)


def refuse_too_long(length):
    if not 1 <= length <= MOST_TICKS:
        raise TooLong(f"a wave has 1 to {MOST_TICKS} ticks")


def not_too_long(signs):
    refuse_too_long(len(signs))
    return signs


def level_at(wave, tick):
    refuse_no_tick(wave, tick)
    return wave[tick]


def with_level(wave, tick, level):
    refuse_no_tick(wave, tick)
    return wave[:tick] + level + wave[tick + 1:]


def changes(wave):
    return [(tick, wave[tick - 1], wave[tick]) for tick in range(1, len(wave)) if wave[tick] != wave[tick - 1]]


def rises(wave):
    return [tick for tick, ahead, level in changes(wave) if ahead == "0" and level == "1"]


def falls(wave):
    return [tick for tick, ahead, level in changes(wave) if ahead == "1" and level == "0"]


def spans(wave):
    starts = [tick for tick in range(len(wave)) if tick == 0 or wave[tick] != wave[tick - 1]]
    ends = starts[1:] + [len(wave)]
    return [(start, end - start, wave[start]) for start, end in zip(starts, ends)]


def inner_spans(wave):
    # What was ahead of the wave, and what comes behind it, may have made its first and last stretch longer.
    return spans(wave)[1:-1]


def of_spans(rows):
    # A stretch that is too long by one tick is refused as well as a longer one, and is soon written.
    return not_too_long("".join([level * min(many, MOST_TICKS + 1) for many, level in rows]))


def joined(one, other):
    return not_too_long(one + other)


def slower(wave, by):
    return of_spans([(by, level) for level in wave])


def part(wave, start, many):
    return not_too_long("".join([level for tick, level in enumerate(wave) if start <= tick < start + many]))


def later(wave, by, level):
    # More ticks than the wave's own would all be cut again.
    ahead = level * min(by, len(wave))
    return (ahead + wave)[:len(wave)]


def turned_about(wave):
    return "".join(reversed(wave))


def first_ticks_behind(wave, many):
    return wave[many:] + wave[:many]
