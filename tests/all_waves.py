"""Every wave of a length, for tests that ask something of all of them."""

from itertools import product


def waves_of(length, levels="01x"):
    return ["".join(signs) for signs in product(levels, repeat=length)]


def waves_up_to(length, levels="01x"):
    return [wave for ticks in range(1, length + 1) for wave in waves_of(ticks, levels)]


def all_that_it_can_be(wave):
    return ["".join(signs) for signs in product(*["01" if level == "x" else level for level in wave])]
