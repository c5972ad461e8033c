"""All refusals of the program."""


class KindError(ValueError):
    """Any refusal."""


class NoSign(KindError):
    """A thing that is no sign."""


class NoneSuch(KindError):
    """A text that is not there."""


class NoGiven(KindError):
    """A given that is not there."""


class NotSingle(KindError):
    """A making with a given in it twice."""


class NoName(KindError):
    """A name that is not there."""


class Taken(KindError):
    """A name that is in use."""


class NoWriting(KindError):
    """A text that is not the writing of a shape."""
