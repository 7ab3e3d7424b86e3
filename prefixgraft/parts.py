"""What NAMEs, ADDRESSes and PARTs are, and what stands in a PART."""

from prefixgraft.errors import BadPart, BadPath

MOST_ELEMENTS = 60
MOST_LEVELS = 8

MOST_LETTERS = 8
LETTERS = "abcdefghijklmnopqrstuvwxyz"
ADDRESS_SIGNS = "abcdefghijklmnopqrstuvwxyz0123456789./:-"
PLAIN_SIGNS = "abcdefghijklmnopqrstuvwxyz0123456789 ./-"
RESERVED = "xmlns"

_MOST_SIGNS = 20


def is_prefix(thing):
    """Whether a thing is a PREFIX."""
    return _is_made_of(thing, LETTERS, 0, MOST_LETTERS) and thing != RESERVED


def is_local(thing):
    """Whether a thing is a LOCAL."""
    return _is_made_of(thing, LETTERS, 1, MOST_LETTERS) and thing != RESERVED


def is_address(thing):
    """Whether a thing is an ADDRESS ("" is none)."""
    return _is_made_of(thing, ADDRESS_SIGNS, 1, _MOST_SIGNS)


def is_name(thing):
    """Whether a thing is a NAME."""
    return is_pair(thing) and is_prefix(thing[0]) and is_local(thing[1])


def is_word(thing):
    """Whether a thing is such a string as a HOLE has ("xmlns" is one, too)."""
    return _is_made_of(thing, LETTERS, 1, MOST_LETTERS)


def is_pair(thing):
    """Whether a thing is a tuple of two."""
    return isinstance(thing, tuple) and len(thing) == 2


def is_number_below(thing, many):
    """Whether a thing is an integer from 0 on that is less than many."""
    # Python takes True and False for integers, and the document does not.
    return isinstance(thing, int) and not isinstance(thing, bool) and 0 <= thing < many


def is_element(thing):
    """Whether a thing begins as an ELEMENT does; of a child of one, whether it is one."""
    return _begins(thing, "element")


def is_part(thing):
    """Whether a thing is a PART."""
    return _fault(thing) is None


def need_part(thing):
    """The thing itself, if it is a PART."""
    fault = _fault(thing)
    if fault is not None:
        path, item = fault
        raise BadPart(path, item)
    return thing


def holes(part):
    """The ascending tuple of the strings of a PART's HOLEs."""
    need_part(part)
    return tuple(sorted([hole for _, element in walk(part) for hole in holes_among(element[4])]))


def prefixes(part):
    """The ascending tuple of all PREFIXes in a PART, of NAMEs and of DECLARATIONS."""
    need_part(part)
    found = []
    for _, element in walk(part):
        found.extend([prefix for prefix, _ in names_in(element)])
        found.extend([prefix for prefix, _ in element[2]])
    return tuple(sorted(set(found)))


def paths(part):
    """The list of the PATHs of a PART's ELEMENTs, in their order."""
    need_part(part)
    return [path for path, _ in walk(part)]


def element_at(part, path):
    """The ELEMENT of a PART to which a PATH leads."""
    need_part(part)
    if not isinstance(path, tuple):
        raise BadPath(path)
    element = part
    for number in path:
        if not is_number_below(number, len(element[4])):
            raise BadPath(path)
        element = element[4][number]
        if not is_element(element):
            raise BadPath(path)
    return element


def walk(part):
    """The list of the pairs (PATH, ELEMENT) of a PART, in the order of its ELEMENTs."""
    found = []
    waiting = [((), part)]
    while waiting:
        path, element = waiting.pop()
        found.append((path, element))
        waiting.extend(_below(path, element))
    return found


def names_in(element):
    """The list of the NAMEs of an ELEMENT, of its ATTRIBUTES, and of the QUOTED ones in it."""
    return [element[1]] + [name for name, _ in element[3]] + quoted_in(element)


def quoted_in(element):
    """The list of the QUOTED NAMEs of an ELEMENT."""
    return [value for _, value in element[3] if not isinstance(value, str)]


def seen_in(element):
    """The list of the PREFIXes that the NAMEs of an ELEMENT and of its ATTRIBUTES are read by."""
    # The DEFAULT is not for ATTRIBUTES.
    return [element[1][0]] + [name[0] for name, _ in element[3] if name[0] != ""]


def looked_up(element):
    """The list of the PREFIXes that all NAMEs in an ELEMENT are read by, the QUOTED ones too."""
    return seen_in(element) + [name[0] for name in quoted_in(element)]


def holes_among(children):
    """The list of the strings of the HOLEs among CHILDREN, as they stand."""
    return [child[1] for child in children if _begins(child, "hole")]


def _is_made_of(thing, signs, least, most):
    """Whether a thing is a string of least to most of these signs."""
    if not isinstance(thing, str) or not least <= len(thing) <= most:
        return False
    return all([sign in signs for sign in thing])


def _is_plain(thing):
    """Whether a thing is a PLAIN string."""
    return _is_made_of(thing, PLAIN_SIGNS, 0, _MOST_SIGNS)


def _begins(thing, word):
    """Whether a thing is a tuple that begins with this string."""
    # The first item may be anything: nothing but a string is asked whether it is equal.
    return isinstance(thing, tuple) and len(thing) > 0 and isinstance(thing[0], str) and thing[0] == word


def _is_hole(thing):
    """Whether a thing is a HOLE."""
    return _begins(thing, "hole") and len(thing) == 2 and is_word(thing[1])


def _below(path, element):
    """The pairs (PATH, child) of what begins as an ELEMENT among the CHILDREN, the last one first."""
    return [
        (path + (number,), child)
        for number, child in reversed(list(enumerate(element[4])))
        if is_element(child)
    ]


def _fault(thing):
    """What BadPart is made with, the pair (PATH, item), of what is no PART; None of a PART."""
    fault = _first_wrong(thing)
    if fault is None:
        fault = _first_hole_again(thing)
    return fault


def _first_wrong(thing):
    """The pair (PATH, item) of what is first wrong in a thing, all but equal HOLEs; or None."""
    looked_at = 0
    waiting = [((), thing)]
    while waiting:
        path, element = waiting.pop()
        looked_at += 1
        item = "form"
        if looked_at <= MOST_ELEMENTS and len(path) < MOST_LEVELS:
            item = _wrong_item(element)
        if item is not None:
            return path, item
        waiting.extend(_below(path, element))
    return None


def _wrong_item(thing):
    """The first item of a thing by which it is no ELEMENT by itself, or None."""
    if not is_element(thing) or len(thing) != 5:
        return "form"
    if not is_name(thing[1]):
        return "name"
    if not _are_declarations(thing[2]):
        return "declarations"
    if not _are_attributes(thing[3]):
        return "attributes"
    if not _are_children(thing[4]):
        return "children"
    return None


def _are_declarations(thing):
    """Whether a thing is DECLARATIONS."""
    if not isinstance(thing, tuple) or not all([_is_declaration(one) for one in thing]):
        return False
    return len({prefix for prefix, _ in thing}) == len(thing)


def _is_declaration(thing):
    """Whether a thing is a pair that binds a PREFIX, or takes it back."""
    return is_pair(thing) and is_prefix(thing[0]) and (is_address(thing[1]) or _is_empty(thing[1]))


def _is_empty(thing):
    """Whether a thing is the empty string."""
    return isinstance(thing, str) and len(thing) == 0


def _are_attributes(thing):
    """Whether a thing is ATTRIBUTES."""
    if not isinstance(thing, tuple) or not all([_is_attribute(one) for one in thing]):
        return False
    return len({name for name, _ in thing}) == len(thing)


def _is_attribute(thing):
    """Whether a thing is a pair of a NAME and a VALUE."""
    return is_pair(thing) and is_name(thing[0]) and (_is_plain(thing[1]) or is_name(thing[1]))


def _are_children(thing):
    """Whether a thing is CHILDREN; what begins as an ELEMENT is taken for one."""
    if not isinstance(thing, tuple):
        return False
    behind_text = False
    for child in thing:
        if isinstance(child, str):
            if behind_text or _is_empty(child) or not _is_plain(child):
                return False
        elif not is_element(child) and not _is_hole(child):
            return False
        behind_text = isinstance(child, str)
    return True


def _first_hole_again(part):
    """The pair (PATH, "hole") of the first ELEMENT with a HOLE that was told ahead of it; or None."""
    told = []
    for path, element in walk(part):
        told.extend(holes_among(element[4]))
        if len(set(told)) < len(told):
            return path, "hole"
    return None
