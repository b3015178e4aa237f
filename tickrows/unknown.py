"""Unknown levels: what they can be, and what several tellings of one wave say together."""

from tickrows.errors import Clash, TooLong
from tickrows.waves import refuse_unlike

MOST_UNKNOWN = 6


def fits(wave, known):
    refuse_unlike([wave, known])
    return all([level == "x" or level == other for level, other in zip(wave, known)])


def all_known(wave):
    if wave.count("x") > MOST_UNKNOWN:
        raise TooLong(f"more than {MOST_UNKNOWN} levels are not known")
    # From the last tick on, so that the ends stay in rising order as levels are put ahead of them.
    ends = [""]
    for level in reversed(wave):
        ends = with_level_ahead(level, ends)
    return ends


def with_level_ahead(level, ends):
    if level == "x":
        return with_level_ahead("0", ends) + with_level_ahead("1", ends)
    return [level + end for end in ends]


def clashing(one, other):
    refuse_unlike([one, other])
    return [tick for tick in range(len(one)) if clash_at(one[tick], other[tick])]


def clash_at(first, second):
    return first != second and first != "x" and second != "x"


def led_together(one, other):
    ticks = clashing(one, other)
    if len(ticks) > 0:
        raise Clash(f"the waves clash at {ticks}")
    return "".join([second if first == "x" else first for first, second in zip(one, other)])


def in_common(one, other):
    refuse_unlike([one, other])
    return "".join([first if first == second else "x" for first, second in zip(one, other)])


def found(pattern, wave):
    return [tick for tick in range(len(wave)) if fits_from(pattern, wave, tick)]


def fits_from(pattern, wave, tick):
    end = tick + len(pattern)
    return end <= len(wave) and fits(pattern, wave[tick:end])
