"""The errors that the package raises.

What an error is made with may be anything, also something that cannot be
shown; so no text here is made of it, except where the package alone makes it.
"""


class GraftError(ValueError):
    """An argument is refused."""


class BadPart(GraftError):
    """A thing is no PART: the PATH of what is first wrong in it, and the item of this that is."""

    def __init__(self, path, item):
        super().__init__(f"no PART: {item} at {path}")
        self.path = path
        self.item = item


class BadText(GraftError):
    """A thing is no written form: the number of the character with which none goes on, or None."""

    def __init__(self, place):
        super().__init__(f"no written form: character {place}")
        self.place = place


class BadSurrounding(GraftError):
    """A thing is no SURROUNDING: its first wrong key, or None of what is no dict."""

    def __init__(self, prefix):
        super().__init__("no SURROUNDING")
        self.prefix = prefix


class BadFilling(GraftError):
    """A thing is no FILLING, or not one for a PART: its first wrong key, None, or a HOLE without a PART."""

    def __init__(self, hole):
        super().__init__("no FILLING, or not one of all HOLEs")
        self.hole = hole


class BadPath(GraftError):
    """A thing is not the PATH, or not the number of a child, that is asked for."""

    def __init__(self, path):
        super().__init__("no PATH that leads to what is asked for")
        self.path = path


class TooMany(GraftError):
    """There are more PREFIXes than a question is answered for."""

    def __init__(self, most):
        super().__init__(f"more than {most} PREFIXes")
        self.most = most


class BadQuestion(GraftError):
    """A question that has no answer; made with a text."""


class Parts(RuntimeError):
    """A PARTING of two PARTs that had to be ALIKE."""

    def __init__(self, surrounding, filling):
        super().__init__("the PARTs are not ALIKE")
        self.surrounding = surrounding
        self.filling = filling


class Stuck(RuntimeError):
    """An ELEMENT cannot be MOVED, because of a PREFIX."""

    def __init__(self, prefix):
        super().__init__("the ELEMENT is STUCK")
        self.prefix = prefix


class Missing(KeyError):
    """No PART is kept by a WORD."""

    def __init__(self, name):
        super().__init__("no PART of this WORD")
        self.name = name
