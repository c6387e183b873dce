"""The refusals: one class for each, all of them under PassbyError."""


class PassbyError(ValueError):
    pass


class NoDeed(PassbyError):
    pass


class NoPass(PassbyError):
    pass


class Nothing(PassbyError):
    pass


class NoBox(PassbyError):
    pass
