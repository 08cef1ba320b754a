"""The refusals of the program, one class for each."""


class MeldError(ValueError):
    pass


class BadHouse(MeldError):
    pass


class BadHand(MeldError):
    pass


class BadLaying(MeldError):
    pass


class BadNote(MeldError):
    pass
