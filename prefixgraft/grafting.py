"""ELEMENTs that are MOVED within a PART."""

from prefixgraft.errors import BadPath, Stuck
from prefixgraft.parts import MOST_LEVELS, element_at, is_element, is_number_below, prefixes, walk
from prefixgraft.settling import as_one, least_declared
from prefixgraft.skeletons import need_meaning
from prefixgraft.trees import Tree, redeclared


def moved(part, path, to, at):
    """The PART with the ELEMENT at a PATH MOVED into the one at another PATH, ahead of the child with a number."""
    _need_move(part, path, to)
    leaving = element_at(part, path)
    left = len(element_at(part, to)[4])
    if path[:-1] == to:
        left -= 1
    if not is_number_below(at, left + 1):
        raise BadPath(at)
    if len(to) + 1 + _levels_of(leaving) > MOST_LEVELS:
        raise BadPath(to)
    if _joins_texts(part, path, to, at):
        raise BadPath(path)
    tree = Tree(part)
    sticking = _sticking(part, tree, path, to)
    if sticking:
        raise Stuck(sticking[0])
    newcomer = redeclared(leaving, _declared_anew(part, tree, path, to))
    return _placed(part, (), path, to, at, newcomer)


def stuck_by(part, path, to):
    """The ascending tuple of the PREFIXes by which the ELEMENT at a PATH is STUCK if it comes to another PATH."""
    _need_move(part, path, to)
    return tuple(_sticking(part, Tree(part), path, to))


def _need_move(part, path, to):
    """Refuses what are not the PATHs of an ELEMENT of a PART that can leave its place, and of one outside it."""
    need_meaning(part)
    element_at(part, path)
    if path == ():
        raise BadPath(path)
    element_at(part, to)
    if to[:len(path)] == path:
        raise BadPath(to)


def _levels_of(element):
    """How many LEVELs an ELEMENT has."""
    return 1 + max([len(path) for path, _ in walk(element)])


def _joins_texts(part, path, to, at):
    """Whether two TEXTs stand side by side when an ELEMENT is MOVED."""
    number = path[-1]
    if to == path[:-1] and at == number:
        return False
    around = element_at(part, path[:-1])[4]
    beside = around[:number][-1:] + around[number + 1:][:1]
    return len([child for child in beside if isinstance(child, str)]) == 2


def _sticking(part, tree, path, to):
    """The ascending list of the PREFIXes by which an ELEMENT is STUCK."""
    start = tree.paths.index(path)
    goal = tree.paths.index(to)
    found = []
    for prefix in prefixes(part):
        state = ("out", prefix)
        # What is ASKED as OUTSIDE within an ELEMENT is so in this itself, too.
        if tree.fixed_of(prefix)[start] == state and tree.states_of(prefix)[goal] != state:
            found.append(prefix)
    return found


def _declared_anew(part, tree, path, to):
    """The dict from the PATHs in an ELEMENT to the DECLARATIONS that these have when it is MOVED."""
    start = tree.paths.index(path)
    goal = tree.paths.index(to)
    inner_paths = [inner for inner, _ in walk(element_at(part, path))]
    behind = start + len(inner_paths)
    around = [-1] + [outer - start for outer in tree.around[start + 1:behind]]
    wanted = {
        prefix: (tree.states_of(prefix)[goal], tree.fixed_of(prefix)[start:behind]) for prefix in prefixes(part)
    }
    return least_declared(inner_paths, around, wanted, as_one)


def _placed(element, here, path, to, at, newcomer):
    """The ELEMENT at the PATH here, without the one at a PATH, and with a newcomer where this comes to."""
    children = [
        _placed(child, here + (number,), path, to, at, newcomer) if is_element(child) else child
        for number, child in enumerate(element[4])
        if here + (number,) != path
    ]
    if here == to:
        children.insert(at, newcomer)
    return element[:4] + (tuple(children),)
