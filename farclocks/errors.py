"""The refusals. Each stands under ClockError, none under another."""


class ClockError(ValueError):
    pass


class NoRecord(ClockError):
    pass


class NoEvent(ClockError):
    pass


class NoNumber(ClockError):
    pass


class NoWorld(ClockError):
    pass


class Barred(ClockError):
    pass


class Nothing(ClockError):
    pass


class NoText(ClockError):
    pass
