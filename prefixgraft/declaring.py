"""With how few DECLARATIONS, and with how short ones, a PART says the same."""

from prefixgraft.papers import Packing, are_holding
from prefixgraft.parts import is_pair, is_prefix, need_part, prefixes
from prefixgraft.settling import as_one, least_declared
from prefixgraft.skeletons import need_meaning
from prefixgraft.trees import Tree, redeclared


def variant(one, other):
    """Whether two PARTs are VARIANTs of each other."""
    need_part(one)
    need_part(other)
    return redeclared(one, {}) == redeclared(other, {})


def keeping(one, other):
    """Whether a PART is a VARIANT that KEEPS the other one."""
    if not variant(one, other):
        return False
    tree = Tree(one)
    kept = Tree(other)
    every = sorted(set(prefixes(one)) | set(prefixes(other)))
    return all([_keeps(tree.states_of(prefix), kept.fixed_of(prefix)) for prefix in every])


def fewest(part):
    """A FEWEST VARIANT of a PART."""
    return redeclared(part, _least_declared(part, as_one))


def shortest(part):
    """A SHORTEST VARIANT of a PART."""
    return redeclared(part, _least_declared(part, _signs))


def how_few(part):
    """How many DECLARATIONS a FEWEST VARIANT of a PART has."""
    return sum([len(told) for told in list(_least_declared(part, as_one).values())])


def needless(part):
    """The list of the pairs (PATH, PREFIX) of the NEEDLESS DECLARATIONs of a PART."""
    need_meaning(part)
    tree = Tree(part)
    fixed = {prefix: tree.fixed_of(prefix) for prefix in prefixes(part)}
    return [
        (tree.paths[number], prefix)
        for number, declared in enumerate(tree.declared)
        for prefix in sorted(declared)
        if _keeps(_states_without(tree, number, prefix), fixed[prefix])
    ]


def paper(part):
    """A PAPER of a PART that HOLDS, and SHOWS how few DECLARATIONS do."""
    need_meaning(part)
    tree = Tree(part)
    return tuple([(prefix, tuple(Packing(tree, prefix).chains())) for prefix in prefixes(part)])


def shown(part, thing):
    """How many CHAINs a thing has if it is a PAPER of a PART that HOLDS; None of anything else."""
    need_meaning(part)
    if not isinstance(thing, tuple):
        return None
    tree = Tree(part)
    many = 0
    behind = None
    for row in thing:
        if not is_pair(row) or not is_prefix(row[0]) or (behind is not None and row[0] <= behind):
            return None
        behind, chains = row
        if not are_holding(tree, behind, chains):
            return None
        many += len(chains)
    return many


def _keeps(states, fixed):
    """Whether these are the STATEs of the ELEMENTs in which a PREFIX is FIXED."""
    return all([wanted is None or state == wanted for state, wanted in zip(states, fixed)])


def _states_without(tree, skipped, prefix):
    """The list of the STATEs of a PREFIX if the ELEMENT with the number skipped does not declare it."""
    states = []
    for number, outer in enumerate(tree.around):
        if number != skipped and prefix in tree.declared[number]:
            states.append(("at", tree.declared[number][prefix]))
        else:
            states.append(states[outer] if outer >= 0 else ("out", prefix))
    return states


def _least_declared(part, weigh):
    """The dict from PATHs of a PART to ascending DECLARATIONS that KEEP it, and weigh together as little as any."""
    need_meaning(part)
    tree = Tree(part)
    wanted = {prefix: (("out", prefix), tree.fixed_of(prefix)) for prefix in prefixes(part)}
    return least_declared(tree.paths, tree.around, wanted, weigh)


def _signs(prefix, address):
    """How many signs a DECLARATION has."""
    own = 9 if prefix == "" else 10 + len(prefix)
    return own + len(address)
