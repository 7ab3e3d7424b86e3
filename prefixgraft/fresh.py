"""Strings that no PART has yet."""

from prefixgraft.parts import LETTERS, is_local, walk


def fresh_words(many, taken):
    """The list of so many unlike strings that none is taken; they are LOCALs, and so ADDRESSes too."""
    used = set(taken)
    found = []
    number = 0
    while len(found) < many:
        word = _word(number)
        if is_local(word) and word not in used:
            found.append(word)
        number += 1
    return found


def fresh_addresses(many, parts):
    """The list of so many unlike ADDRESSes that none of some PARTs has."""
    taken = [address for part in parts for _, element in walk(part) for _, address in element[2]]
    return fresh_words(many, taken)


def _word(number):
    """The string with a number among all strings of letters, the shorter ones first."""
    word = ""
    rest = number + 1
    while rest > 0:
        rest, letter = divmod(rest - 1, len(LETTERS))
        word = LETTERS[letter] + word
    return word
