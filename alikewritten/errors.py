"""The refusals, one class each."""


class WriteError(ValueError):
    pass


class NoWriter(WriteError):
    pass


class NoSign(WriteError):
    pass


class NoPiece(WriteError):
    pass


class OtherSigns(WriteError):
    pass


class NoRoom(WriteError):
    pass


class NoNote(WriteError):
    pass
