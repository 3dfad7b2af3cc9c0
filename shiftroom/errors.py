"""The refusals, one class each."""


class RoomError(ValueError):
    pass


class NoSize(RoomError):
    pass


class NoSeating(RoomError):
    pass


class OtherSize(RoomError):
    pass


class NoSeat(RoomError):
    pass


class NoNumber(RoomError):
    pass


class TooMany(RoomError):
    pass


class Unreached(RoomError):
    pass


class TooWide(RoomError):
    pass


class NotRead(RoomError):
    pass
