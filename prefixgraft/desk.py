"""A desk that does in a Library what lines say."""

from prefixgraft.declaring import how_few
from prefixgraft.errors import BadQuestion, GraftError, Missing, Parts, Stuck
from prefixgraft.library import Library
from prefixgraft.likeness import alike
from prefixgraft.sealing import is_safe, safe_list
from prefixgraft.skeletons import hangs_on
from prefixgraft.texts import read_part, size_of, written

_DIGITS = "0123456789"
_DONE = "done"
_NO = "no"
_NONE = "none"


def _put(library, words):
    """Answers "put WORD" and a written form."""
    library[words[1]] = read_part(words[2])
    return _DONE


def _replace(library, words):
    """Answers "replace WORD" and a written form."""
    try:
        library.replace(words[1], read_part(words[2]))
    except Parts as parts:
        bound = [_shown(prefix) + "=" + address for prefix, address in sorted(parts.surrounding.items())]
        return " ".join(["parts"] + bound)
    return _DONE


def _show(library, words):
    """Answers "show WORD"."""
    return written(library[words[1]])


def _forget(library, words):
    """Answers "forget WORD"."""
    library.forget(words[1])
    return _DONE


def _tidy(library, words):
    """Answers "tidy WORD"."""
    library.tidy(words[1])
    return _DONE


def _fill(library, words):
    """Answers "fill WORD HOLE WORD"."""
    library.fill(words[1], words[2], words[3])
    return _DONE


def _move(library, words):
    """Answers "move WORD PATH PATH AT"."""
    try:
        library.move(words[1], _path(words[2]), _path(words[3]), _number(words[4]))
    except Stuck as stuck:
        return "stuck " + _shown(stuck.prefix)
    return _DONE


def _alike(library, words):
    """Answers "alike WORD WORD"."""
    return "yes" if alike(library[words[1]], library[words[2]]) else _NO


def _needs(library, words):
    """Answers "needs WORD"."""
    return _listed([_shown(prefix) for prefix in hangs_on(library[words[1]])])


def _few(library, words):
    """Answers "few WORD"."""
    return str(how_few(library[words[1]]))


def _safe(library, words):
    """Answers "safe WORD"."""
    part = library[words[1]]
    return "yes" if is_safe(part) else _listed([_shown(prefix) for prefix in safe_list(part)])


def _size(library, words):
    """Answers "size WORD"."""
    return str(size_of(library[words[1]]))


def _words(library, words):
    """Answers "words"."""
    return _listed(library.words())


def _undo(library, words):
    """Answers "undo"."""
    return _DONE if library.undo() else "nothing"


# What answers a line, by its first word and the number of its words.
_ANSWERS = {
    ("put", 3): _put,
    ("replace", 3): _replace,
    ("show", 2): _show,
    ("forget", 2): _forget,
    ("tidy", 2): _tidy,
    ("fill", 4): _fill,
    ("move", 5): _move,
    ("alike", 3): _alike,
    ("needs", 2): _needs,
    ("few", 2): _few,
    ("safe", 2): _safe,
    ("size", 2): _size,
    ("words", 1): _words,
    ("undo", 1): _undo,
}


class Desk:
    """A Library, and the lines that are said to it."""

    def __init__(self):
        self._library = Library()

    @property
    def library(self):
        """The Library of this desk."""
        return self._library

    def say(self, line):
        """The answer to a line."""
        if not isinstance(line, str):
            return _NO
        words = _words_of(line)
        told = (words[0], len(words))
        if told not in _ANSWERS:
            return _NO
        answer = _ANSWERS[told]
        try:
            return answer(self._library, words)
        except (GraftError, Missing):
            return _NO


def _words_of(line):
    """The list of the words of a line; a written form, which may have spaces of its own, is one word."""
    if line.startswith("put ") or line.startswith("replace "):
        return line.split(" ", 2)
    return line.split(" ")


def _path(word):
    """The PATH that a word tells."""
    return () if word == "-" else tuple([_number(one) for one in word.split(".")])


def _number(word):
    """The integer that a word tells."""
    if word == "" or len(word) > 2 or not all([sign in _DIGITS for sign in word]):
        raise BadQuestion("this is no integer of one or two digits")
    if len(word) == 2 and word[0] == "0":
        raise BadQuestion("a 0 stands ahead of another digit")
    return int(word)


def _shown(prefix):
    """A PREFIX as an answer tells it."""
    return "-" if prefix == "" else prefix


def _listed(words):
    """Words as an answer tells them."""
    return " ".join(words) if words else _NONE
