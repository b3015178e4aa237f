"""Clocks, and what is sampled by them."""

from tickrows.buses import digit_wave
from tickrows.errors import TooLong
from tickrows.gates import chosen_at
from tickrows.waves import MOST_TICKS, not_too_long, refuse_unlike, rises


def clock(low, high, first, many):
    if low < 1 or high < 1:
        raise TooLong("a clock's round has 1 tick or more of each level")
    # A wave that is too long by one tick is refused as well as a longer one, and is soon written.
    end = first + min(many, MOST_TICKS + 1)
    return not_too_long("".join([clock_level(low, high, number) for number in range(first, end)]))


def clock_level(low, high, number):
    return "0" if number % (low + high) < low else "1"


def beats(beat):
    marks = rises(beat)
    return [behind - mark for mark, behind in zip(marks, marks[1:])]


def sampled(wave, beat):
    refuse_unlike([wave, beat])
    return "".join([wave[tick - 1] for tick in rises(beat)])


def held(wave, beat, first):
    # With the first level ahead of the samples, so many rises lead to the sample of the last of them.
    samples = first + sampled(wave, beat)
    return "".join([samples[number] for number in rises_up_to(beat)])


def let_by(wave, gate, first):
    refuse_unlike([wave, gate])
    levels = []
    own = first
    for choice, level in zip(gate, wave):
        own = chosen_at(choice, level, own)
        levels.append(own)
    return "".join(levels)


def counted(beat, many):
    counts = rises_up_to(beat)
    return [digit_wave(counts, place) for place in range(many)]


def rises_up_to(beat):
    marks = rises(beat)
    counts = []
    so_many = 0
    for tick in range(len(beat)):
        if tick in marks:
            so_many += 1
        counts.append(so_many)
    return counts
