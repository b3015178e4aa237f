"""What leads from one wave to another one."""

from tickrows.errors import Clash, TooLong
from tickrows.waves import are_levels, refuse_no_tick, refuse_unlike, spans


def patch(old, new):
    refuse_unlike([old, new])
    marks = "".join(["0" if first == second else "1" for first, second in zip(old, new)])
    return [(tick, new[tick:tick + many]) for tick, many, mark in spans(marks) if mark == "1"]


def patched(wave, rows):
    told = wave
    for tick, levels in rows:
        told = with_levels(told, tick, levels)
    return told


def with_levels(wave, tick, levels):
    refuse_no_tick(wave, tick)
    end = tick + len(levels)
    if end > len(wave) or not are_levels(levels):
        raise TooLong(f"{levels!r} are no levels that the wave has ticks for")
    return wave[:tick] + levels + wave[end:]


def merged(first, one, other):
    ticks = contested(first, one, other)
    if len(ticks) > 0:
        raise Clash(f"both waves have it otherwise, and unlike, at {ticks}")
    return "".join([merged_at(own, left, right) for own, left, right in zip(first, one, other)])


def merged_at(own, left, right):
    return right if left == own else left


def contested(first, one, other):
    refuse_unlike([first, one, other])
    return [tick for tick in range(len(first)) if contested_at(first[tick], one[tick], other[tick])]


def contested_at(own, left, right):
    return left != own and right != own and left != right
