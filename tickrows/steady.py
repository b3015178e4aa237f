"""Steady waves: counted, numbered, and made by the least changes."""

from tickrows.errors import NoWave
from tickrows.gates import OPPOSITES
from tickrows.waves import inner_spans, is_known, refuse_too_long, refuse_unlike, spans


def is_steady(wave, many):
    return all([ticks >= many for tick, ticks, level in inner_spans(wave)])


def count_steady(length, many):
    refuse_too_long(length)
    return count_beginning("0", length, many) + count_beginning("1", length, many)


def count_beginning(start, length, many):
    """How many known, steady waves of this length begin so."""
    if not is_steady(start, many):
        return 0
    # Up to the end of what the last stretch lacks there is but one way to go on.
    return count_ends(length - len(start) - ticks_lacking(start, many), many)


def ticks_lacking(start, many):
    """How many ticks the last stretch must still get ahead of a change."""
    rows = spans(start)
    return max(many - rows[-1][1], 0) if len(rows) > 1 else 0


def count_ends(most, many):
    """In how many ways so many ticks can follow a stretch that may end there."""
    counts = [1]
    for ticks in range(1, most + 1):
        # Either the stretch goes on by a tick, or another one of its full length comes, as far as there are ticks.
        counts.append(counts[ticks - 1] + counts[max(ticks - max(many, 1), 0)])
    return counts[-1]


def steady(length, many, number):
    # Asked ahead of the number, so that a length that no wave has is refused whatever the number is.
    count = count_steady(length, many)
    if not 0 <= number < count:
        raise NoWave(f"no steady wave has the number {number}")
    wave = ""
    behind = number
    while len(wave) < length:
        lower = count_beginning(wave + "0", length, many)
        if behind < lower:
            wave += "0"
        else:
            wave += "1"
            behind -= lower
    return wave


def number_of(wave, many):
    if not is_known(wave) or not is_steady(wave, many):
        raise NoWave(f"{wave!r} is no known, steady wave")
    highs = [tick for tick, level in enumerate(wave) if level == "1"]
    return sum([count_beginning(wave[:tick] + "0", len(wave), many) for tick in highs])


def cost_of(wave, other):
    refuse_unlike([wave, other])
    return sum([cost_at(level, own) for level, own in zip(wave, other)])


def cost_at(level, own):
    return 1 if level != "x" and level != own else 0


def steadied(wave, many):
    # Beginnings that can go on alike differ in their cost and their order alone: the least one of each kind is enough.
    least = {("", 0): (0, "")}
    for level in wave:
        least = gone_on(least, level, many)
    return min(least.values())


def gone_on(least, level, many):
    told = {}
    for kind, row in least.items():
        for behind in kinds_behind(kind, many):
            longer = (row[0] + cost_at(level, behind[0]), row[1] + behind[0])
            told[behind] = min(told.get(behind, longer), longer)
    return told


def kinds_behind(kind, many):
    """Kinds of beginnings are tuples of the last level and of how many ticks it must still get ahead of a change."""
    last = kind[0]
    lacking = kind[1]
    if last == "":
        return [("0", 0), ("1", 0)]
    if lacking > 0:
        return [(last, lacking - 1)]
    return [(last, 0), (OPPOSITES[last], max(many - 1, 0))]
