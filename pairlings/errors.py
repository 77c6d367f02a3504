"""The refusals of the program: each one is a PairError, and none is another."""


class PairError(ValueError):
    pass


class NoPairing(PairError):
    pass


class NoWalk(PairError):
    pass


class NoNumber(PairError):
    pass


class TooMany(PairError):
    pass


class BadNote(PairError):
    pass
