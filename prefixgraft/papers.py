"""CHAINs of one PREFIX: as many as a PAPER that HOLDS can have, and whether a thing is such CHAINs."""

from prefixgraft.parts import is_pair


class Packing:
    """The CHAINs of one PREFIX of a Tree, as many as the fewest DECLARATIONS of it.

    No CHAIN goes on over a FIXED number, so that each piece of the PART between FIXED ones is by itself.
    Let m be the fewest DECLARATIONS that do within a number, and its likely STATEs those with which m do:
    of a FIXED number its own; of another one those that are likely for most of the numbers below it. If it
    has d below, and such a STATE is likely for `most` of these, its m is the sum of theirs and d - most.

    A number is packed upward with m CHAINs within, and with one more that can begin within, and leave it
    upward, to each STATE that is not likely; or downward, so that m + 1 CHAINs end within, one to each
    likely STATE coming from above. For this it packs `most` of those below upward, one less if it is packed
    downward itself, and the others downward. Then there is a CHAIN for each that is to end in one of these:
    if n below have a likely STATE in common, k of them packed upward, n - k of the others are to be sent one
    to it, and of the `most` packed upward all but k have one; n is less than `most` for all but the likely
    STATEs of the number itself, which get the one that is missing if it is packed downward from above.
    """

    def __init__(self, tree, prefix):
        self._fixed = _fixed_numbers(tree, prefix)
        self._states = sorted(set(list(self._fixed.values())))
        self._likely = {}
        self._most = {}
        self._below = {number: [] for number in range(-1, len(tree.around))}
        # What is around a number has a lower one: from the last on, each is settled after all below it.
        for number in reversed(range(len(tree.around))):
            self._settle(number)
            # No CHAIN leads to where nothing is FIXED.
            if self._likely[number]:
                self._below[tree.around[number]].append(number)

    def chains(self):
        """The list of the CHAINs."""
        found = []
        for number, own in self._fixed.items():
            for child in self._below[number]:
                inner, waiting = self._pack(child, False)
                found.extend(inner)
                found.extend([(number, goal) for state, goal in waiting.items() if state != own])
        return found

    def _settle(self, number):
        """Tells the likely STATEs of a number."""
        if number in self._fixed:
            self._likely[number] = [self._fixed[number]]
            return
        counts = {}
        for child in self._below[number]:
            for state in self._likely[child]:
                counts[state] = counts.get(state, 0) + 1
        self._most[number] = max(list(counts.values()), default=0)
        self._likely[number] = [state for state, many in counts.items() if many == self._most[number]]

    def _pack(self, number, upward):
        """The list of the CHAINs within a number, and the dict of those over the EDGE above it.

        If upward, it leads from the STATEs that are not likely to where a CHAIN to them begins; else from
        the likely ones to where a CHAIN to them ends.
        """
        if number in self._fixed:
            own = self._fixed[number]
            return [], {state: number for state in self._states if (state != own) == upward}
        senders = self._most[number] if upward else self._most[number] - 1
        found = []
        begun = []
        waiting = []
        for place, child in enumerate(self._below[number]):
            inner, ends = self._pack(child, place < senders)
            found.extend(inner)
            if place < senders:
                begun.append(ends)
            else:
                waiting.append(ends)
        return self._met(found, begun, waiting, upward)

    def _met(self, found, begun, waiting, upward):
        """What _pack tells of a number, if these are found, begun and waiting below it."""
        joined = list(found)
        going_on = {}
        for state in self._states:
            starts = [ends[state] for ends in begun if state in ends]
            goals = [ends[state] for ends in waiting if state in ends]
            many = min(len(starts), len(goals))
            joined.extend(list(zip(starts[:many], goals[:many])))
            rest = starts[many:] if upward else goals[many:]
            if rest:
                going_on[state] = rest[0]
        return joined, going_on


def are_holding(tree, prefix, thing):
    """Whether a thing is a tuple of CHAINs of a PREFIX of a Tree, any two of which go together in a PAPER."""
    if not isinstance(thing, tuple):
        return False
    fixed = _fixed_numbers(tree, prefix)
    directions = {}
    ends = {}
    for chain in thing:
        if not _is_chain(chain, fixed):
            return False
        start, goal = chain
        for edge, upward in _way(tree.around, start, goal):
            if directions.setdefault(edge, upward) != upward or (edge, fixed[goal]) in ends:
                return False
            ends[(edge, fixed[goal])] = True
    return True


def _fixed_numbers(tree, prefix):
    """The dict from the numbers at which a PREFIX is FIXED to its STATEs there."""
    fixed = {-1: ("out", prefix)}
    for number, state in enumerate(tree.fixed_of(prefix)):
        if state is not None:
            fixed[number] = state
    return fixed


def _is_chain(thing, fixed):
    """Whether a thing is a pair of numbers that are FIXED, with unlike STATEs."""
    if not is_pair(thing) or not _is_integer(thing[0]) or not _is_integer(thing[1]):
        return False
    return thing[0] in fixed and thing[1] in fixed and fixed[thing[0]] != fixed[thing[1]]


def _is_integer(thing):
    """Whether a thing is an integer."""
    # Python takes True and False for integers, and the document does not.
    return isinstance(thing, int) and not isinstance(thing, bool)


def _way(around, start, goal):
    """The list of the EDGEs from one number to another, as pairs (number below the EDGE, whether it is gone up)."""
    climbed = []
    descended = []
    while start != goal:
        # What is around a number has a lower one, so the higher of two is not around the other one.
        if start > goal:
            climbed.append((start, True))
            start = around[start]
        else:
            descended.append((goal, False))
            goal = around[goal]
    return climbed + descended
