"""How much of a wave is what, and how it comes again."""

from tickrows.waves import first_ticks_behind, refuse_unlike, spans


def tally(wave):
    return (wave.count("0"), wave.count("1"), wave.count("x"))


def longest(wave, level):
    told = None
    for tick, many, own in spans(wave):
        if own == level and (told is None or many > told[1]):
            told = (tick, many)
    return told


def distance(one, other):
    refuse_unlike([one, other])
    return len([tick for tick in range(len(one)) if one[tick] != other[tick]])


def periods(wave):
    # What comes again so many ticks later is the wave's beginning once more.
    return [many for many in range(1, len(wave) + 1) if wave.startswith(wave[many:])]


def nearest_turn(one, other):
    refuse_unlike([one, other])
    rows = [(distance(first_ticks_behind(one, turn), other), turn) for turn in range(len(one))]
    # Waves of no tick have nothing that could be turned.
    return min(rows, default=(0, 0))[1]
