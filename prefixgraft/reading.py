"""What a PART means in a SURROUNDING, with a FILLING of its HOLEs."""

from prefixgraft.errors import BadFilling, BadSurrounding
from prefixgraft.parts import holes, is_address, is_part, is_prefix, is_word, need_part


def need_surrounding(thing):
    """The thing itself, if it is a SURROUNDING."""
    if not isinstance(thing, dict):
        raise BadSurrounding(None)
    for prefix, address in thing.items():
        if not is_prefix(prefix) or not is_address(address):
            raise BadSurrounding(prefix)
    return thing


def need_filling(thing):
    """The thing itself, if it is a FILLING."""
    if not isinstance(thing, dict):
        raise BadFilling(None)
    for hole, part in thing.items():
        if not is_word(hole) or not is_part(part) or holes(part):
            raise BadFilling(hole)
    return thing


def meaning(part, surrounding, filling=None):
    """The MEANING of a PART, or None if it is REFUSED."""
    need_part(part)
    need_surrounding(surrounding)
    filled = {} if filling is None else need_filling(filling)
    for hole in holes(part):
        if hole not in filled:
            raise BadFilling(hole)
    return _read(part, surrounding, filled)


def _read(element, around, filling):
    """The MEANING of an ELEMENT, or None if it is REFUSED, where PREFIXes are BOUND as around it."""
    _, name, declarations, attributes, children = element
    bound = _bound_in(declarations, around)
    full_name = _read_name(name, bound)
    rows = _read_attributes(attributes, bound)
    inner = [_read_child(child, bound, filling) for child in children]
    if full_name is None or rows is None or None in inner:
        return None
    return "element", full_name, rows, tuple(inner)


def _bound_in(declarations, around):
    """The dict from PREFIXes to what they are BOUND to, in an ELEMENT with these DECLARATIONS."""
    bound = dict(around)
    for prefix, address in declarations:
        bound[prefix] = address
    return bound


def _read_child(child, bound, filling):
    """What a child of an ELEMENT is read as: a TEXT as itself, a HOLE as the PART that fills it."""
    if isinstance(child, str):
        return child
    if child[0] == "hole":
        return _read(filling[child[1]], bound, filling)
    return _read(child, bound, filling)


def _read_name(name, bound):
    """The pair (ADDRESS, LOCAL) of the NAME of an ELEMENT or of a QUOTED one; None if it is REFUSED."""
    prefix, local = name
    address = bound.get(prefix, "")
    if prefix != "" and address == "":
        return None
    return address, local


def _read_attributes(attributes, bound):
    """The ATTRIBUTES of a MEANING, or None if they are REFUSED."""
    rows = [(_read_attribute_name(name, bound), _read_value(value, bound)) for name, value in attributes]
    if any([full_name is None or value is None for full_name, value in rows]):
        return None
    if len({full_name for full_name, _ in rows}) < len(rows):
        return None
    return tuple(sorted(rows, key=lambda row: row[0]))


def _read_attribute_name(name, bound):
    """The pair (ADDRESS, LOCAL) of the NAME of an ATTRIBUTE; None if it is REFUSED."""
    # The DEFAULT is not for ATTRIBUTES.
    if name[0] == "":
        return name
    return _read_name(name, bound)


def _read_value(value, bound):
    """What a VALUE is read as, or None of a QUOTED NAME that is REFUSED."""
    if isinstance(value, str):
        return value
    return _read_name(value, bound)
