"""The refusals of the program, one class for each."""


class BeadError(ValueError):
    pass


class TooFew(BeadError):
    pass


class NoBeads(BeadError):
    pass


class NoRods(BeadError):
    pass


class NoCore(BeadError):
    pass


class NoQuotient(BeadError):
    pass


class NoCharges(BeadError):
    pass


class NoNote(BeadError):
    pass
