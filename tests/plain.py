"""The promises told once more in another way, for the tests to compare with."""

from tests.samples import with_chains

KEYS = ("on", "back", "up", "down", "left", "right", "into", "out")
SIDES = KEYS[2:6]
WAYS = KEYS[2:]


def plain_lies(box, other, way):
    """The same told by counting unit fields."""
    along, across = (1, 0) if way in ("up", "down") else (0, 1)
    here, there = [[set(range(one[at], one[at] + one[at + 2])) for at in (along, across)]
                   for one in (box, other)]
    first, second = (here[0], there[0]) if way in ("down", "right") else (there[0], here[0])
    if max(first) >= min(second):
        return None
    gap = len(range(max(first) + 1, min(second)))
    if here[1] & there[1]:
        return (0, gap, 0)
    lower, upper = sorted([here[1], there[1]], key=min)
    return (1, gap, len(range(max(lower) + 1, min(upper))))


def plain_open(sheet):
    """A dict of the open parts, by the sheet's order: of each the chain of parts around it and it."""
    return {chain[-1][0]: chain for chain in with_chains(sheet)
            if all(one[2] == "free" for one in chain)}


def plain_nearest(chains, name, way):
    """Where one of the four leads, by sorting all that lies there."""
    chain = chains[name]
    rows = []
    for at, (other, its_chain) in enumerate(chains.items()):
        if other != name and its_chain[:-1] == chain[:-1]:
            near = plain_lies(chain[-1][1], its_chain[-1][1], way)
            if near is not None:
                rows.append((*near, at, other))
    return sorted(rows)[0][-1] if rows else None


def plain_goes(sheet):
    """A dict of the open parts: of each a dict of the eight keys with where they lead."""
    chains = plain_open(sheet)
    ranks = {name: chain[-1][3] for name, chain in chains.items()}
    order = sorted([name for name in chains if ranks[name]], key=ranks.get)
    order += [name for name in chains if not ranks[name]]
    told = {}
    for name, chain in chains.items():
        at = order.index(name)
        inner = [one[0] for one in chain[-1][5] if one[0] in chains]
        leads = {"on": (order + order)[at + 1], "back": order[at - 1]}
        leads |= {way: plain_nearest(chains, name, way) for way in SIDES}
        leads["into"] = inner[0] if inner else None
        leads["out"] = chain[-2][0] if len(chain) > 1 else None
        told[name] = leads
    return told


def plain_far(leads, keys):
    """How many of these keys it takes from part to part: a dict of pairs, by a growing bound."""
    far = {(name, name): 0 for name in leads}
    for many in range(len(leads)):
        for one, other in [pair for pair in far if far[pair] == many]:
            for key in keys:
                to = leads[other][key]
                if to is not None:
                    far.setdefault((one, to), many + 1)
    return far


def thawed(parts):
    """The parts as lists that may be changed."""
    return [[*one[:5], thawed(one[5])] for one in parts]


def frozen(rows):
    """The tuple of parts that such lists tell."""
    return tuple((*row[:5], frozen(row[5])) for row in rows)


def plain_done(sheet, deed):
    """What comes of a deed that can be done, by changing lists in place."""
    kind, name, *given = deed
    outer = thawed(sheet)
    levels = [outer]
    for level in levels:
        levels.extend(row[5] for row in level)
    rows = {row[0]: (level, row) for level in levels for row in level}
    if kind == "put":
        level = outer if name is None else rows[name][1][5]
        level.insert(given[0], thawed([given[1]])[0])
    elif kind == "take":
        level, row = rows[name]
        level.remove(row)
        kept = [chain[-1][0] for chain in with_chains(outer)]
        for level, row in rows.values():
            row[4] = row[4] if row[4] in kept else None
    else:
        rows[name][1][["name", "box", "word", "rank", "head"].index(kind)] = given[0]
    return frozen(outer)


def plain_stand(sheet, other, name):
    """Where somebody stands behind a change, by going on step by step."""
    before, after = plain_goes(sheet), plain_goes(other)
    step = name
    for turn in range(len(before)):
        if step in after:
            return step
        step = step and before[step]["on"]
    ranks = {one: chain[-1][3] for one, chain in plain_open(other).items()}
    return min(after, key=lambda one: (ranks[one] == 0, ranks[one]), default=None)


class PlainWalker:
    """A walker that keeps all that was done to it, and tells its stand by a table made each time."""

    def __init__(self, sheet):
        self.sheet = sheet
        self.steps = [(None, plain_stand(sheet, sheet, None))]
        self.outs = []

    def stand(self):
        return self.steps[-1][1]

    def press(self, key):
        here = self.stand()
        if here is None:
            return
        leads = plain_goes(self.sheet)
        to = leads[here][key]
        if key == "into":
            last = [inner for inner, outer in self.outs if outer == here][-1:]
            to = last[0] if last and last[0] in leads and leads[last[0]]["out"] == here else to
        if key == "out" and to is not None:
            self.outs.append((here, to))
        self.steps.append((here, here if to is None else to))

    def do(self, deed):
        other = plain_done(self.sheet, deed)
        self.steps.append((self.stand(), plain_stand(self.sheet, other, self.stand())))
        self.sheet = other

    def told(self):
        return [to for here, to in self.steps if to is not None and to != here]
