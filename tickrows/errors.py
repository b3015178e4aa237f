"""What the program refuses: one class for each refusal, all under TickError."""


class TickError(ValueError):
    pass


class NoTick(TickError):
    pass


class Unlike(TickError):
    pass


class Clash(TickError):
    pass


class TooLong(TickError):
    pass


class NoWave(TickError):
    pass


class NoName(TickError):
    pass


class NoText(TickError):
    pass


class NoBack(TickError):
    pass
