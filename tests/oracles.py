"""What the document says of STATEs, KEEPING, PAPERs and the like, written down slowly, and PARTs by chance."""

import itertools
import math
import re

from tests.samples import element, hole


def elements(part, path=()):
    """The list of the pairs (PATH, ELEMENT) of a PART, in their order."""
    found = [(path, part)]
    for number, child in enumerate(part[4]):
        if child[0] == "element":
            found.extend(elements(child, path + (number,)))
    return found


def at(part, path):
    for number in path:
        part = part[4][number]
    return part


def state(part, path, prefix):
    """The STATE of a PREFIX: what the nearest DECLARATION around says."""
    for length in range(len(path), -1, -1):
        declared = dict(at(part, path[:length])[2])
        if prefix in declared:
            return ("at", declared[prefix])
    return ("out", prefix)


def asked(part, path, prefix):
    """Whether a PREFIX is ASKED in an ELEMENT of a PART."""
    one = at(part, path)
    if prefix == one[1][0] or any(child[0] == "hole" for child in one[4]):
        return True
    for name, worth in one[3]:
        if name[0] == prefix != "" or not isinstance(worth, str) and worth[0] == prefix:
            return True
    below = [path + (number,) for number, child in enumerate(one[4]) if child[0] == "element"]
    return any(asked(part, inner, prefix) and state(part, inner, prefix) == ("out", prefix) for inner in below)


def every_prefix(*some):
    """All PREFIXes in PARTs, and one that is in none."""
    found = {"zz", ""}
    for part in some:
        for _, one in elements(part):
            found.update([one[1][0]] + [name[0] for name, _ in one[3]] + [prefix for prefix, _ in one[2]])
            found.update(worth[0] for _, worth in one[3] if not isinstance(worth, str))
    return sorted(found)


def bare(part):
    """A PART without its DECLARATIONS."""
    return part[:2] + ((),) + part[3:4] + (tuple(bare(one) if one[0] == "element" else one for one in part[4]),)


def keeps(one, part):
    """Whether a PART is a VARIANT that KEEPS another one."""
    return bare(one) == bare(part) and all(
        not asked(part, path, prefix) or state(one, path, prefix) == state(part, path, prefix)
        for prefix in every_prefix(one, part) for path, _ in elements(part)
    )


def declarations(part):
    """The list of the triples (PATH, PREFIX, ADDRESS) of the DECLARATIONS of a PART."""
    return [(path, prefix, address) for path, one in elements(part) for prefix, address in one[2]]


def with_declarations(part, told, path=()):
    """A PART with the DECLARATIONS that a dict has at PATHs, and no other ones."""
    children = tuple(
        with_declarations(one, told, path + (number,)) if one[0] == "element" else one
        for number, one in enumerate(part[4])
    )
    return part[:2] + (tuple(told.get(path, ())),) + part[3:4] + (children,)


def one_prefix_declared(part, prefix):
    """All ways to declare one PREFIX in a PART with ADDRESSes that this has for it: lists of (PATH, ADDRESS)."""
    paths = [path for path, _ in elements(part)]
    addresses = sorted({address for _, one, address in declarations(part) if one == prefix})
    for told in itertools.product([None] + addresses, repeat=len(paths)):
        yield [(path, address) for path, address in zip(paths, told) if address is not None]


def least_weight(part, weigh):
    """The least weight of DECLARATIONS that KEEP a small PART, by trying all, one PREFIX after the other."""
    total = 0
    for prefix in every_prefix(part):
        weights = []
        for told in one_prefix_declared(part, prefix):
            other = with_declarations(part, {path: [(prefix, address)] for path, address in told})
            if all(
                not asked(part, path, prefix) or state(other, path, prefix) == state(part, path, prefix)
                for path, _ in elements(part)
            ):
                weights.append(sum(weigh(prefix, address) for _, address in told))
        total += min(weights)
    return total


def way(part, start, goal):
    """The list of the EDGEs from one number to another, as pairs (number below, "up" or "down")."""
    paths = [path for path, _ in elements(part)]

    def above(number):
        found = []
        while number >= 0:
            found.append(number)
            number = paths.index(paths[number][:-1]) if paths[number] else -1
        return found

    up, down = above(start), above(goal)
    return [(one, "up") for one in up if one not in down] + [(one, "down") for one in down if one not in up]


def shows(part, paper):
    """What a PAPER shows, or None of a tuple of pairs of PREFIXes and tuples of pairs of integers that is none."""
    if [prefix for prefix, _ in paper] != sorted({prefix for prefix, _ in paper}):
        return None
    paths = [path for path, _ in elements(part)]
    for prefix, chains in paper:
        fixed = {-1: ("out", prefix)}
        for number, path in enumerate(paths):
            if asked(part, path, prefix):
                fixed[number] = state(part, path, prefix)
        for start, goal in chains:
            if start not in fixed or goal not in fixed or fixed[start] == fixed[goal]:
                return None
        for (start, goal), (other_start, other_goal) in itertools.combinations(chains, 2):
            edges = dict(way(part, start, goal))
            for edge, direction in way(part, other_start, other_goal):
                if edge in edges and (edges[edge] != direction or fixed[goal] == fixed[other_goal]):
                    return None
    return sum(len(chains) for _, chains in paper)


def bound(part, path, prefix, surrounding):
    """What a PREFIX is BOUND to in an ELEMENT of a PART, in a SURROUNDING."""
    kind, told = state(part, path, prefix)
    return told if kind == "at" else surrounding.get(prefix, "")


def visible(one, listed):
    """The PREFIXes that are VISIBLE in an ELEMENT by a LIST."""
    return {one[1][0], *[name[0] for name, _ in one[3] if name[0] != ""], *listed}


def sealed(part, surrounding, listed=()):
    """The SEALED form of a PART."""
    told = {}
    for path, one in elements(part):
        told[path] = []
        for prefix in sorted(visible(one, listed)):
            last = ""
            for length in range(len(path)):
                last = dict(told[path[:length]]).get(prefix, last)
            if bound(part, path, prefix, surrounding) != last:
                told[path].append((prefix, bound(part, path, prefix, surrounding)))
    return with_declarations(part, told)


def surroundings(prefixes, addresses):
    """All SURROUNDINGs that bind some of these PREFIXes to some of these ADDRESSes."""
    for row in itertools.product((None,) + tuple(addresses), repeat=len(prefixes)):
        yield {prefix: address for prefix, address in zip(prefixes, row) if address is not None}


def variants(part, prefixes, addresses):
    """All VARIANTs of a PART with DECLARATIONS of these PREFIXes and ADDRESSes (or "")."""
    paths = [path for path, _ in elements(part)]
    told = [tuple(one.items()) for one in surroundings(prefixes, ("",) + tuple(addresses))]
    for row in itertools.product(told, repeat=len(paths)):
        yield with_declarations(part, dict(zip(paths, row)))


LETTERS = "abcdefghijklmnopqrstuvwxyz"
ADDRESS_SIGNS = LETTERS + "0123456789./:-"
PLAIN_SIGNS = LETTERS + "0123456789 ./-"
NAME = re.compile(r"(?!xmlns(?::|$))([a-z]{1,8}:(?!xmlns$))?[a-z]{1,8}")
NAME_BEGINS = re.compile(r"[a-z]{0,8}|(?!xmlns:)[a-z]{1,8}:[a-z]{0,8}")


def signs(text):
    """What a stack holds of signs that have to come one after the other."""
    return tuple(("is", sign) for sign in text)


def some(allowed, least=0, most=math.inf):
    """What a stack holds of so many of these signs."""
    return (("of", allowed, least, most),)


def ways(stack):
    """All stacks that begin with what takes a sign, or are empty, and that a stack may become before the next sign.

    A stack holds what has to come of a written form, the next thing first.
    """
    if not stack or stack[0][0] == "is":
        yield stack
        return
    (kind, *told), rest = stack[0], stack[1:]
    after = []
    if kind == "of":
        yield stack
        after = [()] if told[1] <= 0 else []
    elif kind == "name":
        yield stack
        if NAME.fullmatch(told[0]) and not (told[1] == "prefix" and ":" in told[0]):
            after = [(("items", True, told[0]),) if told[1] == "element" else ()]
    elif kind == "element":
        after = [signs("<") + (("name", "", "element"),)]
    elif kind == "items":
        declaring, name = told
        after = [
            signs("/>"), signs(">") + (("child",), ("children", name)),
            signs(" ") + (("name", "", "attribute"), *signs('="'), ("worth",), *signs('"'), ("items", False, name)),
        ]
        if declaring:
            address = signs('="') + some(ADDRESS_SIGNS) + signs('"') + (("items", True, name),)
            after += [signs(" xmlns") + address, signs(" xmlns:") + (("name", "", "prefix"),) + address]
    elif kind == "worth":
        after = [some(PLAIN_SIGNS), signs("@") + (("name", "", "attribute"),)]
    elif kind == "child":
        after = [(("element",),), signs("{") + some(LETTERS, 1, 8) + signs("}"), some(PLAIN_SIGNS, 1)]
    elif kind == "children":
        after = [signs("</" + told[0] + ">"), (("child",), ("children", told[0]))]
    for one in after:
        yield from ways(one + rest)


def behind(stack, sign):
    """The stack behind a sign that its first thing takes, or None if this takes no such sign."""
    if not stack:
        return None
    (kind, *told), rest = stack[0], stack[1:]
    if kind == "is":
        return rest if told[0] == sign else None
    if kind == "of":
        allowed, least, most = told
        return some(allowed, max(least - 1, 0), most - 1) + rest if sign in allowed and most > 0 else None
    longer = told[0] + sign
    if not NAME_BEGINS.fullmatch(longer) or (told[1] == "prefix" and ":" in longer):
        return None
    return (("name", longer, told[1]),) + rest


def text_fault(text):
    """The place with which a string is no written form, or None if it is one: all ways are followed at once."""
    stacks = {(("element",),)}
    for place, sign in enumerate(text):
        stacks = {behind(one, sign) for stack in stacks for one in ways(stack)} - {None}
        if not stacks:
            return place
    return None if any(one == () for stack in stacks for one in ways(stack)) else len(text)


class Chance:
    """PARTs by chance, of few PREFIXes and ADDRESSes, so that much is alike."""

    def __init__(self, rng, prefixes=("", "p", "q"), addresses=("", "u", "v"), locals_=("a", "b"), quoted=0.3):
        self.rng = rng
        self.prefixes = prefixes
        self.addresses = addresses
        self.locals = locals_
        self.quoted = quoted

    def name(self):
        return (self.rng.choice(self.prefixes), self.rng.choice(self.locals))

    def worth(self):
        return self.name() if self.rng.random() < self.quoted else self.rng.choice(["", "x"])

    def one(self, children=(), declaring=0.4, attributes=0.5):
        declared = [
            (prefix, self.rng.choice(self.addresses)) for prefix in self.prefixes if self.rng.random() < declaring
        ]
        self.rng.shuffle(declared)
        told = {}
        while self.rng.random() < attributes and len(told) < 3:
            told[self.name()] = self.worth()
        return element(self.name(), tuple(declared), tuple(told.items()), tuple(children))

    def part(self, many=4, levels=4, holes=0.3, texts=0.2, declaring=0.4, attributes=0.5):
        """A PART of at most so many ELEMENTs and LEVELs."""
        names = iter("hgijklmnoqrstvwxyz")

        def grown(left, deep):
            children = []
            left -= 1
            while left > 0 and deep > 1 and self.rng.random() < 0.8:
                if self.rng.random() < texts and not (children and isinstance(children[-1], str)):
                    children.append(self.rng.choice(["so", "x"]))
                inner, used = grown(self.rng.randint(1, left), deep - 1)
                children.append(inner)
                left -= used
            if self.rng.random() < holes:
                told = next(names, None)
                if told is not None:
                    children.insert(self.rng.randint(0, len(children)), hole(told))
            made = self.one(self.without_double_texts(children), declaring, attributes)
            return made, len(elements(made))

        return grown(many, levels)[0]

    @staticmethod
    def without_double_texts(children):
        return [
            child for number, child in enumerate(children)
            if not (isinstance(child, str) and number > 0 and isinstance(children[number - 1], str))
        ]
