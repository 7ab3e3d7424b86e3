"""The ELEMENTs of a PART by their numbers, for questions about its DECLARATIONS."""

from prefixgraft.parts import holes_among, is_element, looked_up, walk
from prefixgraft.skeletons import bound_by_path, state_in


class Tree:
    """The ELEMENTs of a PART: what each list holds at a number is told of the ELEMENT with this number.

    paths has its PATH, around the number of the ELEMENT around it (-1 of OUTSIDE), declared the dict of
    its DECLARATIONS.
    """

    def __init__(self, part):
        bound = bound_by_path(part)
        rows = walk(part)
        numbers = {path: number for number, (path, _) in enumerate(rows)}
        self.paths = [path for path, _ in rows]
        self.around = [numbers[path[:-1]] if path else -1 for path, _ in rows]
        self.declared = [dict(element[2]) for _, element in rows]
        self._bound = [bound[path] for path, _ in rows]
        self._looked_up = [{prefix: True for prefix in looked_up(element)} for _, element in rows]
        self._has_hole = [len(holes_among(element[4])) > 0 for _, element in rows]

    def states_of(self, prefix):
        """The list of the STATEs of a PREFIX in the ELEMENTs."""
        return [state_in(bound, prefix) for bound in self._bound]

    def fixed_of(self, prefix):
        """The list of the STATEs of a PREFIX in the ELEMENTs in which it is ASKED, with None for all others."""
        fixed = []
        for number, state in enumerate(self.states_of(prefix)):
            asked = self._has_hole[number] or prefix in self._looked_up[number]
            fixed.append(state if asked else None)
        # The ELEMENT around one has a lower number: from the last on, each is whole before it asks what is around it.
        for number in reversed(range(1, len(fixed))):
            if fixed[number] == ("out", prefix):
                fixed[self.around[number]] = fixed[number]
        return fixed


def redeclared(element, declared, path=()):
    """An ELEMENT with the DECLARATIONS that a dict has at its PATHs."""
    children = [
        redeclared(child, declared, path + (number,)) if is_element(child) else child
        for number, child in enumerate(element[4])
    ]
    return "element", element[1], tuple(declared.get(path, ())), element[3], tuple(children)
