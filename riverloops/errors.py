"""The refusals, one class for each; RiverError takes them all."""


class RiverError(ValueError):
    pass


class NoArcs(RiverError):
    pass


class NoNumber(RiverError):
    pass


class Unlike(RiverError):
    pass


class TooMany(RiverError):
    pass


class NotRead(RiverError):
    pass
