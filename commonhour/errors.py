"""What is refused, a class for each kind of refusal."""


class HourError(ValueError):
    """Something that was handed in is refused."""


class BadWords(HourError):
    """No list of at most eighty words."""


class BadMeeting(HourError):
    """No meeting, or no list of at most six meetings."""


class BadOlds(HourError):
    """No list of an hour or None for each meeting."""


class BadHand(HourError):
    """No hand."""


class BadPerson(HourError):
    """No person."""


class BadHour(HourError):
    """No hour."""


class BadWord(HourError):
    """None of the three answers."""


class Unlike(HourError):
    """Two unlike words of one count and hand."""


class TooMany(HourError):
    """More than there may be."""
