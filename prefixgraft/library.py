"""PARTs that are kept by WORDs, and changed in ways that can be undone."""

from prefixgraft.declaring import fewest
from prefixgraft.errors import BadQuestion, Missing, Parts
from prefixgraft.grafting import moved
from prefixgraft.likeness import parted, put
from prefixgraft.parts import is_word, need_part, walk


class Library:
    """PARTs by WORDs."""

    def __init__(self):
        self._parts = {}
        # The pairs of a WORD and the PART that it had ahead of a change, or None; the last change is the last one.
        self._changes = []

    def __getitem__(self, word):
        return self._need(word)

    def __setitem__(self, word, part):
        if not is_word(word):
            raise BadQuestion("this is no WORD")
        self._change(word, need_part(part))

    def __contains__(self, word):
        return isinstance(word, str) and word in self._parts

    def __len__(self):
        return len(self._parts)

    def __iter__(self):
        raise TypeError("a library has words() to go over")

    def __eq__(self, other):
        return isinstance(other, Library) and self._parts == other._parts

    def words(self):
        """The ascending tuple of the WORDs."""
        return tuple(sorted(self._parts))

    def forget(self, word):
        """Keeps the PART of a WORD no longer."""
        self._need(word)
        self._change(word, None)

    def replace(self, word, part):
        """Puts an ALIKE PART in the place of that of a WORD."""
        parting = parted(self._need(word), part)
        if parting is not None:
            surrounding, filling = parting
            raise Parts(surrounding, filling)
        self._change(word, part)

    def fill(self, word, hole, other):
        """PUTs the PART of another WORD into a HOLE of that of a WORD."""
        self._change(word, put(self._need(word), hole, self._need(other)))

    def tidy(self, word):
        """Leaves the PART of a WORD as few DECLARATIONS as any, and tells how many fewer these are."""
        part = self._need(word)
        tidied = fewest(part)
        self._change(word, tidied)
        return _declarations_of(part) - _declarations_of(tidied)

    def move(self, word, path, to, at):
        """Moves an ELEMENT within the PART of a WORD."""
        self._change(word, moved(self._need(word), path, to, at))

    def undo(self):
        """Takes the last change back, and tells whether there was one."""
        if not self._changes:
            return False
        word, part = self._changes.pop()
        self._keep(word, part)
        return True

    def trial(self):
        """An object for one with statement, behind whose block all is as it was ahead of it."""
        return Trial(self)

    def _need(self, word):
        """The PART of a WORD."""
        if word not in self:
            raise Missing(word)
        return self._parts[word]

    def _change(self, word, part):
        """Keeps a PART by a WORD, or with None no longer one, so that it can be undone."""
        self._changes.append((word, self._parts.get(word)))
        self._keep(word, part)

    def _keep(self, word, part):
        """Keeps a PART by a WORD, or with None no longer one."""
        if part is None:
            del self._parts[word]
        else:
            self._parts[word] = part


class Trial:
    """What a Library held ahead of a block, so that it holds it again behind this."""

    def __init__(self, library):
        self._library = library
        self._parts = {}
        self._changes = []

    def __enter__(self):
        # Not earlier: what is done between the making of this and its block stays.
        self._parts = dict(self._library._parts)
        self._changes = list(self._library._changes)
        return self._library

    def __exit__(self, kind, value, trace):
        self._library._parts = self._parts
        self._library._changes = self._changes


def under(manager, deed):
    """What a deed tells of what a manager gives to "as", called in a with statement over this."""
    with manager as one:
        return deed(one)


def _declarations_of(part):
    """How many DECLARATIONS a PART has."""
    return sum([len(element[2]) for _, element in walk(part)])
