"""The refusals of the program."""


class PassError(ValueError):
    pass


class NoNet(PassError):
    pass


class NoRoom(PassError):
    pass


class Unreached(PassError):
    pass
