"""PARTs and things that are none, for several tests."""


def element(name=("", "a"), declarations=(), attributes=(), children=()):
    return ("element", name, declarations, attributes, children)


def hole(name):
    return ("hole", name)


def row_of(many):
    """An ELEMENT with as many ELEMENTs in it, side by side, that there are `many` of them."""
    return element(children=(element(),) * (many - 1))


def chain_of(levels):
    """ELEMENTs in each other, so many that there are `levels` LEVELs."""
    part = element()
    for _ in range(levels - 1):
        part = element(children=(part,))
    return part


class Hostile:
    """A thing that answers no question: whatever asks it for more than its kind fails."""

    __hash__ = object.__hash__

    def _fail(self, *rest):
        raise RuntimeError("asked")

    __eq__ = __ne__ = __lt__ = __gt__ = __le__ = __ge__ = _fail
    __bool__ = __len__ = __iter__ = __getitem__ = __contains__ = _fail
    __str__ = __repr__ = __format__ = __index__ = __int__ = _fail


class Yes:
    """A thing that says that it equals everything."""

    __hash__ = None

    def __eq__(self, other):
        return True

    def __ne__(self, other):
        return False


def deep_list():
    """A list so deep that it can be neither shown nor compared."""
    thing = []
    for _ in range(20000):
        thing = [thing]
    return thing


# What is no PREFIX, no LOCAL, no ADDRESS, no NAME, no PART, no dict, no PATH and no TEXT.
ODD = (
    None, True, False, 0, 1, -1, 10 ** 40, b"", b"a", [], ["a"], ["", "a"], {}, {"a": "b"}, set(), frozenset(),
    (7,), (True,), ("a",), ("a", "b", "c"), (None, None), ((), ()), ([], []), object(), Hostile(), Yes(), deep_list(),
    int, len, ValueError("a"), range(3), iter("ab"), (Hostile(), Hostile()), (Yes(), Yes()), ("", Hostile()),
)
