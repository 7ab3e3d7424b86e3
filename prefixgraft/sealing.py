"""SEALED forms of PARTs, and when they tell the MEANING."""

from prefixgraft.errors import BadQuestion
from prefixgraft.fresh import fresh_addresses
from prefixgraft.parts import element_at, holes, is_prefix, need_part, quoted_in, seen_in, walk
from prefixgraft.reading import need_surrounding
from prefixgraft.skeletons import address_in, bound_by_path, need_meaning, needs
from prefixgraft.trees import redeclared


def visible(part, path, listed=()):
    """The ascending tuple of the PREFIXes that are VISIBLE by a LIST in the ELEMENT to which a PATH leads."""
    element = element_at(part, path)
    _need_sealable(part, listed)
    return tuple(_visible_in(element, listed))


def sealed(part, surrounding, listed=()):
    """The SEALED form of a PART in a SURROUNDING, by a LIST."""
    need_part(part)
    need_surrounding(surrounding)
    _need_sealable(part, listed)
    bound = bound_by_path(part)
    declared = {}
    last_by_path = {}
    for path, element in walk(part):
        last = dict(last_by_path[path[:-1]]) if path else {}
        for prefix in _visible_in(element, listed):
            address = address_in(bound[path], prefix, surrounding)
            if address != last.get(prefix, ""):
                declared.setdefault(path, []).append((prefix, address))
                last[prefix] = address
        last_by_path[path] = last
    return redeclared(part, declared)


def is_safe(part, listed=()):
    """Whether a PART is SAFE by a LIST."""
    _need_readable(part, listed)
    return all([prefix in listed for _, prefix in _hidden(part)])


def is_firm(part, listed=()):
    """Whether a PART is FIRM by a LIST."""
    _need_readable(part, listed)
    return all([prefix in listed for prefix in _loose(part)])


def safe_list(part):
    """The least LIST by which a PART is SAFE, ascending."""
    _need_readable(part, ())
    return tuple(sorted({prefix for _, prefix in _hidden(part)}))


def firm_list(part):
    """The least LIST by which a PART is FIRM, ascending."""
    _need_readable(part, ())
    return tuple(_loose(part))


def unsafe(part, listed=()):
    """None of a SAFE PART; else a SURROUNDING of it, another PART, and a SURROUNDING of this, which show that."""
    _need_readable(part, listed)
    found = [(path, prefix) for path, prefix in _hidden(part) if prefix not in listed]
    if not found:
        return None
    path, prefix = found[0]
    surrounding, address = _with_meaning(part)
    other = _bound_there_alone(part, surrounding, path, prefix, address)
    return surrounding, other, dict(surrounding)


def unfirm(part, listed=()):
    """None of a FIRM PART; else a pair of SURROUNDINGs, which show that."""
    _need_readable(part, listed)
    found = [prefix for prefix in _loose(part) if prefix not in listed]
    if not found:
        return None
    surrounding, address = _with_meaning(part)
    other = dict(surrounding)
    other[found[0]] = address
    return surrounding, other


def _need_sealable(part, listed):
    """Refuses what is no LIST, and a PART that has no SEALED form."""
    if not _is_list(listed):
        raise BadQuestion("this is no tuple of unlike PREFIXes")
    if holes(part):
        raise BadQuestion("a PART with HOLEs has no SEALED form")


def _need_readable(part, listed):
    """Refuses what is no PART, what is no LIST, and a PART without a SEALED form or without a MEANING."""
    need_part(part)
    _need_sealable(part, listed)
    need_meaning(part)


def _is_list(thing):
    """Whether a thing is a LIST."""
    if not isinstance(thing, tuple) or not all([is_prefix(one) for one in thing]):
        return False
    return len(set(thing)) == len(thing)


def _visible_in(element, listed):
    """The ascending list of the PREFIXes that are VISIBLE by a LIST in an ELEMENT."""
    return sorted(set(seen_in(element) + list(listed)))


def _hidden(part):
    """The list of the pairs (PATH, PREFIX) of QUOTED NAMEs whose PREFIX is VISIBLE there only if it is in the LIST."""
    found = []
    for path, element in walk(part):
        seen = seen_in(element)
        found.extend([(path, name[0]) for name in quoted_in(element) if name[0] not in seen])
    return found


def _loose(part):
    """The ascending list of the PREFIXes that have to be in each LIST by which a PART is FIRM.

    Such a one is as OUTSIDE at a QUOTED NAME, but in no ELEMENT in which one sees it without a LIST.
    """
    bound = bound_by_path(part)
    quoted = []
    seen = []
    for path, element in walk(part):
        quoted.extend([name[0] for name in quoted_in(element) if name[0] not in bound[path]])
        seen.extend([prefix for prefix in seen_in(element) if prefix not in bound[path]])
    return sorted(set(quoted) - set(seen))


def _with_meaning(part):
    """A SURROUNDING in which a PART that is not ALWAYS REFUSED has a MEANING, and an ADDRESS that is in neither."""
    needed = needs(part)
    # Unlike ADDRESSes that the PART does not have never let STATEs of a CLASH come to the same one.
    addresses = fresh_addresses(len(needed) + 1, (part,))
    return dict(zip(needed, addresses)), addresses[-1]


def _bound_there_alone(part, surrounding, path, prefix, address):
    """The VARIANT of a PART in which a PREFIX is BOUND to an ADDRESS in one ELEMENT, and all else is as it was.

    The ELEMENTs among the CHILDREN of this one declare what the PREFIX was BOUND to in the SURROUNDING.
    """
    bound = bound_by_path(part)
    declared = {}
    for inner, element in walk(part):
        told = dict(element[2])
        if inner == path:
            told[prefix] = address
        elif inner[:-1] == path:
            told.setdefault(prefix, address_in(bound[inner], prefix, surrounding))
        declared[inner] = list(told.items())
    return redeclared(part, declared)
