"""Gates: waves put together, level by level."""

from tickrows.waves import refuse_unlike

OPPOSITES = {"0": "1", "1": "0", "x": "x"}


def no(wave):
    return "".join([OPPOSITES[level] for level in wave])


def both(one, other):
    refuse_unlike([one, other])
    return "".join([both_at(first, second) for first, second in zip(one, other)])


def either(one, other):
    refuse_unlike([one, other])
    return "".join([either_at(first, second) for first, second in zip(one, other)])


def unlike(one, other):
    refuse_unlike([one, other])
    return "".join([unlike_at(first, second) for first, second in zip(one, other)])


def chosen(which, one, other):
    refuse_unlike([which, one, other])
    return "".join([chosen_at(choice, first, second) for choice, first, second in zip(which, one, other)])


def both_at(first, second):
    # A 0 settles it, so it is looked for ahead of what is not known.
    if first == "0" or second == "0":
        return "0"
    if first == "x" or second == "x":
        return "x"
    return "1"


def either_at(first, second):
    # A 1 settles it, so it is looked for ahead of what is not known.
    if first == "1" or second == "1":
        return "1"
    if first == "x" or second == "x":
        return "x"
    return "0"


def unlike_at(first, second):
    if first == "x" or second == "x":
        return "x"
    return "0" if first == second else "1"


def chosen_at(choice, first, second):
    if choice == "1":
        return first
    if choice == "0":
        return second
    return first if first == second else "x"
