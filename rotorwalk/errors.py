"""The refusals of the program."""


class WalkError(ValueError):
    """Any refusal."""


class BadWeb(WalkError):
    """What was handed in is no web."""


class BadHands(WalkError):
    """What was handed in are no hands of the web."""


class BadPlace(WalkError):
    """What was handed in is no place of the web."""


class BadCount(WalkError):
    """What was handed in is no such number of walkers."""


class NoStep(WalkError):
    """There is no such step, to make or to take back."""


class NotEven(WalkError):
    """The web is not even."""


class Endless(WalkError):
    """Settling does not end: from place one comes to no rest."""

    def __init__(self, place):
        super().__init__(f"from place {place} one comes to no rest")
        self.place = place
