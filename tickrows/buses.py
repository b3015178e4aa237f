"""Several waves as numbers, tick by tick: the first wave's 1 counts 1, the next one's 2, then 4."""

from tickrows.errors import NoWave
from tickrows.waves import common_length, refuse_too_long

MOST_WAVES = 6


def values_of(waves):
    return [value_at(waves, tick) for tick in range(common_length(waves))]


def value_at(waves, tick):
    levels = [wave[tick] for wave in waves]
    if "x" in levels:
        return None
    return sum([int(level) << place for place, level in enumerate(levels)])


def value_bounds(waves):
    least = values_of([wave.replace("x", "0") for wave in waves])
    greatest = values_of([wave.replace("x", "1") for wave in waves])
    return list(zip(least, greatest))


def value_changes(waves):
    numbers = values_of(waves)
    return [tick for tick in range(1, len(numbers)) if is_change(numbers[tick - 1], numbers[tick])]


def is_change(ahead, number):
    return None not in (ahead, number) and ahead != number


def of_values(numbers, many):
    refuse_too_long(len(numbers))
    if not 1 <= many <= MOST_WAVES:
        raise NoWave(f"numbers are made by 1 to {MOST_WAVES} waves")
    if not all([can_be_made(number, many) for number in numbers]):
        raise NoWave(f"there are numbers that {many} waves can not make")
    return [digit_wave(numbers, place) for place in range(many)]


def can_be_made(number, many):
    # Of numbers below 0 something is left over as well, however many digits are taken off.
    return number is None or number >> many == 0


def digit_wave(numbers, place):
    return "".join([digit_at(number, place) for number in numbers])


def digit_at(number, place):
    return "x" if number is None else str((number >> place) & 1)
