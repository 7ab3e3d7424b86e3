"""What a PART says by itself, in all SURROUNDINGs at once."""

from prefixgraft.errors import BadQuestion
from prefixgraft.parts import element_at, is_element, is_prefix, looked_up, need_part, walk

_TAKEN_BACK = ("at", "")


def skeleton(part):
    """The SKELETON of a PART."""
    need_part(part)
    return _shape(part, {})


def is_refused(part):
    """Whether a PART is ALWAYS REFUSED."""
    need_part(part)
    bound = bound_by_path(part)
    return any([_is_refused_by_itself(element, bound[path]) for path, element in walk(part)])


def needs(part):
    """The ascending tuple of the PREFIXes that a PART NEEDS."""
    return tuple([prefix for prefix in hangs_on(part) if prefix != ""])


def hangs_on(part):
    """The ascending tuple of the PREFIXes that a PART HANGS ON."""
    need_part(part)
    bound = bound_by_path(part)
    found = []
    for path, element in walk(part):
        found.extend([prefix for prefix in looked_up(element) if prefix not in bound[path]])
    return tuple(sorted(set(found)))


def clashes(part):
    """The ascending tuple of the pairs of STATEs that CLASH in a PART."""
    need_part(part)
    bound = bound_by_path(part)
    found = []
    for path, element in walk(part):
        found.extend(_clashes_in(element[3], bound[path]))
    return tuple(sorted(set(found)))


def state_at(part, path, prefix):
    """The STATE of a PREFIX in the ELEMENT of a PART to which a PATH leads."""
    element_at(part, path)
    if not is_prefix(prefix):
        raise BadQuestion("this is no PREFIX")
    return state_in(bound_by_path(part)[path], prefix)


def need_meaning(part):
    """The PART itself, if it is not ALWAYS REFUSED."""
    if is_refused(part):
        raise BadQuestion("this PART is always refused")
    return part


def bound_by_path(part):
    """The dict from the PATHs of a PART to the dicts from PREFIXes to STATEs, of all that are not as OUTSIDE."""
    bound = {}
    for path, element in walk(part):
        around = bound[path[:-1]] if path else {}
        bound[path] = _bound_in(element[2], around)
    return bound


def state_in(bound, prefix):
    """The STATE of a PREFIX where those that are not as OUTSIDE have the STATEs of a dict."""
    return bound.get(prefix, ("out", prefix))


def address_in(bound, prefix, surrounding):
    """What a PREFIX is BOUND to in a SURROUNDING where those that are not as OUTSIDE have the STATEs of a dict."""
    kind, told = state_in(bound, prefix)
    return told if kind == "at" else surrounding.get(prefix, "")


def _bound_in(declarations, around):
    """The dict from PREFIXes to their STATEs, if not as OUTSIDE, in an ELEMENT with these DECLARATIONS."""
    bound = dict(around)
    for prefix, address in declarations:
        bound[prefix] = ("at", address)
    return bound


def _shape(element, around):
    """The SKELETON of an ELEMENT, where PREFIXes have these STATEs around it."""
    _, name, declarations, attributes, children = element
    bound = _bound_in(declarations, around)
    rows = [(_attribute_name(one, bound), _value(worth, bound)) for one, worth in attributes]
    ordered = tuple(sorted(rows, key=lambda row: row[0]))
    return "element", _name(name, bound), ordered, tuple([_child(child, bound) for child in children])


def _child(child, bound):
    """What stands for a child of an ELEMENT in its SKELETON."""
    if isinstance(child, str):
        return child
    if is_element(child):
        return _shape(child, bound)
    return "hole", child[1], tuple(sorted(bound.items()))


def _name(name, bound):
    """The pair (STATE, LOCAL) of the NAME of an ELEMENT, or of a QUOTED one."""
    return state_in(bound, name[0]), name[1]


def _attribute_name(name, bound):
    """The pair (STATE, LOCAL) of the NAME of an ATTRIBUTE."""
    # The DEFAULT is not for ATTRIBUTES.
    if name[0] == "":
        return _TAKEN_BACK, name[1]
    return _name(name, bound)


def _value(worth, bound):
    """What stands for a VALUE in a SKELETON."""
    if isinstance(worth, str):
        return worth
    return _name(worth, bound)


def _is_refused_by_itself(element, bound):
    """Whether an ELEMENT in which PREFIXes have these STATEs makes its PART ALWAYS REFUSED."""
    if any([prefix != "" and state_in(bound, prefix) == _TAKEN_BACK for prefix in looked_up(element)]):
        return True
    full_names = [_attribute_name(name, bound) for name, _ in element[3]]
    return len(set(full_names)) < len(full_names)


def _clashes_in(attributes, bound):
    """The list of the pairs of STATEs, each pair ascending, that CLASH in an ELEMENT with these ATTRIBUTES."""
    by_local = {}
    for name, _ in attributes:
        state, local = _attribute_name(name, bound)
        if state != _TAKEN_BACK:
            by_local.setdefault(local, []).append(state)
    return [
        (one, other)
        for states in list(by_local.values())
        for one in states
        for other in states
        if one < other and "out" in (one[0], other[0])
    ]
