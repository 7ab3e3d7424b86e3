"""A string that is read sign by sign."""

from prefixgraft.errors import BadText
from prefixgraft.parts import LETTERS, MOST_LETTERS


class Cursor:
    """A place in a string: what is ahead of it has been read, and some written form goes on with that."""

    def __init__(self, text):
        self._text = text
        self._place = 0

    def sees(self, told):
        """Whether this is what comes next."""
        return self._text.startswith(told, self._place)

    def take(self, told):
        """Reads what is told; refuses the first sign that is another one."""
        for sign in told:
            if not self.sees(sign):
                self.refuse()
            self._place += 1

    def take_signs(self, signs, most=None):
        """Reads what comes next of these signs, most of them at most, and tells it."""
        start = self._place
        behind = len(self._text) if most is None else min(start + most, len(self._text))
        while self._place < behind and self._text[self._place] in signs:
            self._place += 1
        return self._text[start:self._place]

    def take_word(self):
        """Reads the letters that come next, one at least and as many as a LOCAL has at most, and tells them."""
        word = self.take_signs(LETTERS, MOST_LETTERS)
        if word == "":
            self.refuse()
        return word

    def need_end(self):
        """Refuses the sign that comes next, if there is one."""
        if self._place < len(self._text):
            self.refuse()

    def refuse(self):
        """Says that no written form goes on here."""
        raise BadText(self._place)
