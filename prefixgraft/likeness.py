"""PARTs that are ALIKE wherever they are put, and what parts those that are not."""

from prefixgraft.errors import BadQuestion, TooMany
from prefixgraft.fresh import fresh_addresses, fresh_words
from prefixgraft.parts import holes, holes_among, is_element, names_in, need_part, prefixes, walk
from prefixgraft.reading import meaning
from prefixgraft.skeletons import address_in, bound_by_path, is_refused, needs, skeleton

_MOST_PREFIXES = 8


def alike(one, other):
    """Whether two PARTs are ALIKE."""
    need_part(one)
    need_part(other)
    if is_refused(one) or is_refused(other):
        return is_refused(one) and is_refused(other)
    return skeleton(one) == skeleton(other)


def parted(one, other):
    """A LEAST PARTING of two PARTs, or None if they are ALIKE."""
    need_part(one)
    need_part(other)
    every = sorted(set(prefixes(one)) | set(prefixes(other)))
    if len([prefix for prefix in every if prefix != ""]) > _MOST_PREFIXES:
        raise TooMany(_MOST_PREFIXES)
    plain = _plain_filling(one, other)
    for bound in _worth_binding(one, other, every):
        surrounding = dict(zip(bound, fresh_addresses(len(bound), (one, other))))
        for filling in (plain, _telling_filling(one, other, surrounding, every, plain)):
            if meaning(one, surrounding, filling) != meaning(other, surrounding, filling):
                return surrounding, filling
    return None


def put(part, hole, other):
    """The PART with another one PUT into its HOLE with this string."""
    need_part(part)
    need_part(other)
    if not isinstance(hole, str) or hole not in holes(part):
        raise BadQuestion("this is no HOLE of the PART")
    return need_part(_with_put(part, hole, other))


def _worth_binding(one, other, every):
    """The list of the tuples of PREFIXes that a LEAST PARTING may bind, those with the fewest first.

    In a PARTING one PART is not REFUSED, so all that it NEEDS is bound. If this does not part the two, both
    NEED the same, and where STATEs are unlike a PREFIX is as OUTSIDE in one PART and taken back in the
    other one: so it parts them to bind this PREFIX, too.
    """
    needed = [needs(part) for part in (one, other) if not is_refused(part)]
    found = sorted(needed, key=len)
    if len(set(needed)) == 1:
        found.extend([needed[0] + (prefix,) for prefix in every if prefix not in needed[0]])
    return found


def _plain_filling(one, other):
    """The FILLING for just the HOLEs of two PARTs with ELEMENTs of unlike LOCALs, which neither PART has.

    Their NAMEs have the DEFAULT, which never makes that a PART is REFUSED.
    """
    taken = [name[1] for part in (one, other) for _, element in walk(part) for name in names_in(element)]
    every = sorted(set(holes(one)) | set(holes(other)))
    return {hole: _leaf("", local) for hole, local in zip(every, fresh_words(len(every), taken))}


def _telling_filling(one, other, surrounding, every, plain):
    """The plain FILLING, but with a PREFIX in one HOLE of both PARTs where it is not BOUND alike, if there is one."""
    seen_one = _bound_at_holes(one)
    seen_other = _bound_at_holes(other)
    filling = dict(plain)
    for hole in plain:
        if hole in seen_one and hole in seen_other:
            for prefix in every:
                if address_in(seen_one[hole], prefix, surrounding) != address_in(seen_other[hole], prefix, surrounding):
                    filling[hole] = _leaf(prefix, plain[hole][1][1])
                    return filling
    return filling


def _bound_at_holes(part):
    """The dict from the strings of the HOLEs of a PART to the STATEs there, of all that are not as OUTSIDE."""
    bound = bound_by_path(part)
    return {hole: bound[path] for path, element in walk(part) for hole in holes_among(element[4])}


def _leaf(prefix, local):
    """An ELEMENT without DECLARATIONS, ATTRIBUTES and CHILDREN."""
    return "element", (prefix, local), (), (), ()


def _with_put(element, hole, other):
    """An ELEMENT with a PART in the place of the HOLE with this string, if that is within this ELEMENT."""
    return element[:4] + (tuple([_child_with_put(child, hole, other) for child in element[4]]),)


def _child_with_put(child, hole, other):
    """A child of an ELEMENT with a PART in the place of the HOLE with this string."""
    if is_element(child):
        return _with_put(child, hole, other)
    return other if child == ("hole", hole) else child
