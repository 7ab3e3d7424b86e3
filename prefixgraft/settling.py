"""DECLARATIONS set anew with as little weight as any; PREFIXes can be looked at one by one."""


def least_declared(paths, around, wanted, weigh):
    """The dict from PATHs to ascending DECLARATIONS that weigh together as little as any that give wanted STATEs.

    The ELEMENTs have these PATHs, and around has the numbers of those around them, -1 of where they come to.
    wanted is a dict from PREFIXes to pairs of the STATE there, and of the list of those that the ELEMENTs
    have to have (None where any one will do). weigh(PREFIX, ADDRESS) is the weight of a DECLARATION, above 0.
    """
    declared = {}
    for prefix in sorted(wanted):
        first, fixed = wanted[prefix]
        weights = {state: weigh(prefix, state[1]) for state in fixed if state is not None and state[0] == "at"}
        for number, address in _settled(around, fixed, first, weights):
            declared.setdefault(paths[number], []).append((prefix, address))
    return declared


def as_one(prefix, address):
    """What a DECLARATION weighs where they are counted."""
    return 1


def _settled(around, fixed, first, weights):
    """The list of the pairs (number, ADDRESS) of the DECLARATIONs of one PREFIX.

    weights is the dict from the STATEs that can be declared to the weights of DECLARATIONs of them.
    """
    costs, cheapest = _costs(around, fixed, first, weights)
    states = []
    found = []
    for number, outer in enumerate(around):
        above = states[outer] if outer >= 0 else first
        _, state = _choice(costs[number], cheapest[number], above)
        states.append(state)
        if state != above:
            found.append((number, state[1]))
    return found


def _costs(around, fixed, first, weights):
    """Two lists by the numbers of ELEMENTs, of what their STATE costs within them, and where they declare it.

    The first one has dicts from the STATEs that an ELEMENT may have to the least weight within it; the
    other one the least pair (weight, STATE) if it has a DECLARATION of its own, or None if it cannot.
    """
    possible = [first] + [state for state in weights if state != first]
    costs = [{one: 0 for one in possible if wanted is None or one == wanted} for wanted in fixed]
    cheapest = [None] * len(fixed)
    # The ELEMENT around one has a lower number: from the last on, each is weighed before what is around it.
    for number in reversed(range(len(fixed))):
        told = [(weights[state] + cost, state) for state, cost in costs[number].items() if state in weights]
        cheapest[number] = min(told, default=None)
        if around[number] >= 0:
            outer = costs[around[number]]
            for state in list(outer):
                outer[state] += _choice(costs[number], cheapest[number], state)[0]
    return costs, cheapest


def _choice(costs, cheapest, above):
    """The pair (weight, STATE) that is best of an ELEMENT if the STATE around it is this."""
    if above in costs and (cheapest is None or costs[above] <= cheapest[0]):
        return costs[above], above
    return cheapest
