"""Stacks for the tests, and slow ways to runs and to the stacks of trees that share no code with the package."""

import random

from groves import FOOT, within
from treestacks.stacks import Stacks

WORDS = ("a", "b")


def fresh(kind, *stack):
    return ("fresh", kind, stack)


def keep(kind, *push):
    return ("keep", kind, push)


# As many a as b as c: kind 0 puts a number on the stack for each a; kind 1 takes them off; kind 2 has a c for each.
PILE = Stacks((
    (0, -1, (("word", "a"), keep(0, 7))),
    (0, -1, (keep(1, 0), ("word", "d"))),
    (1, 0, (keep(1),)),
    (1, 7, (("word", "b"), keep(1), ("word", "c"))),
    (1, -1, ()),
    (1, -1, (fresh(2, 7, 8), keep(1), fresh(2))),
    (2, 8, (("word", "e"), keep(2))),
    (2, 7, (fresh(2),)),
    (2, -1, ()),
    (0, -1, (("word", "f"), fresh(2, 8), ("word", "g"), fresh(0), ("word", "h"))),
))


def left_of(rule, stack):
    """What rule leaves of stack; None where it cannot be used."""
    if rule[1] == -1:
        left = stack
    elif stack and stack[-1] == rule[1]:
        left = stack[:-1]
    else:
        return None
    return None if left and not any(part[0] == "keep" for part in rule[2]) else left


def stack_of(part, left):
    """The stack of a part of a rule that leaves so much."""
    return part[2] if part[0] == "fresh" else left + part[2]


def slow_text(stacks, run, kind=0, stack=()):
    """The text of a run of this kind with this stack; None where it is none."""
    if type(run) is not tuple or len(run) != 2 or type(run[0]) is not int or type(run[1]) is not tuple:
        return None
    if not 0 <= run[0] < len(stacks.rules):
        return None
    rule = stacks.rules[run[0]]
    left = left_of(rule, stack)
    parts = [part for part in rule[2] if part[0] != "word"]
    if rule[0] != kind or left is None or len(parts) != len(run[1]):
        return None
    told = [slow_text(stacks, inner, part[1], stack_of(part, left)) for part, inner in zip(parts, run[1])]
    if None in told:
        return None
    texts = iter(told)
    return tuple(word for part in rule[2] for word in ((part[1],) if part[0] == "word" else next(texts)))


def runs_of_size(stacks, size, most, known, kind=0, stack=()):
    """All (run, text) of this kind with this stack, of just so many rules and at most so many words."""
    key = (kind, stack, size)
    if key not in known:
        known[key] = []
        # Each rule takes off at most one number.
        for number, rule in enumerate(stacks.rules if len(stack) <= size else ()):
            left = left_of(rule, stack)
            if rule[0] == kind and left is not None:
                rows = [((), (), size - 1)]
                for part in rule[2]:
                    rows = longer_rows(stacks, rows, part, left, most, known)
                known[key] += [((number, runs), text) for runs, text, rest in rows if rest == 0]
    return known[key]


def longer_rows(stacks, rows, part, left, most, known):
    """Each of rows of (runs, text, the number of rules that are left) with a run for part in it, too."""
    if part[0] == "word":
        return [(runs, text + (part[1],), rest) for runs, text, rest in rows if len(text) < most]
    found = []
    for runs, text, rest in rows:
        for size in range(1, rest + 1):
            for run, words in runs_of_size(stacks, size, most, known, part[1], stack_of(part, left)):
                if len(text + words) <= most:
                    found.append((runs + (run,), text + words, rest - size))
    return found


def all_runs(stacks, size, most):
    """All runs of kind 0 with the stack () of at most so many rules and words, each with its text."""
    known = {}
    return dict(told for many in range(1, size + 1) for told in runs_of_size(stacks, many, most, known))


def rules_in(run):
    """How many rules a run has."""
    return 1 + sum(rules_in(inner) for inner in run[1])


def some_part(chance, keeps):
    """A part of a rule, drawn by chance."""
    shape = chance.choice(("word", "fresh", "keep", "keep") if keeps else ("word", "fresh"))
    if shape == "word":
        return ("word", chance.choice(WORDS))
    return (shape, chance.randrange(3), tuple(chance.randrange(2) for _ in range(chance.choice((0, 0, 1, 1, 2)))))


def drawn_stacks(seed, many):
    """Stacks of so many rules, the same for each seed, some of which go on with each top, and end."""
    chance = random.Random(seed)
    rules = [(chance.randrange(3), -1, ()), (chance.randrange(3), chance.randrange(2), (("word", "a"),))]
    rules += [(chance.randrange(3), top, (keep(chance.randrange(3)), ("word", "b"))) for top in (0, 1)]
    while len(rules) < many:
        parts = ()
        for _ in range(chance.randrange(4)):
            parts += (some_part(chance, not any(part[0] == "keep" for part in parts)),)
        rules.append((chance.randrange(3), chance.choice((-1, 0, 1)), parts))
    chance.shuffle(rules)
    return Stacks(tuple(rules))


def numbered(trees):
    """For each tree its knots but the words, by their places, each with its number."""
    tables = []
    number = 0
    for _, knot in trees.trees:
        table = {}
        for place, inner in placed_knots(knot, ()):
            if inner[0] != "word":
                number += 1
                table[place] = number
        tables.append(table)
    return tables


def placed_knots(knot, place):
    """Each knot in knot with its place, each ahead of those in it, from the left."""
    yield place, knot
    if knot[0] in ("plain", "graft"):
        for at, inner in enumerate(knot[-1]):
            yield from placed_knots(inner, place + (at,))


def slow_rules(trees):
    """The rules of the stacks of trees, as the document tells them."""
    tables = numbered(trees)
    rules = [(0, -1, (fresh(1, tables[at][()]),)) for at, tree in enumerate(trees.trees) if tree[0] == 0]
    for table, tree in zip(tables, trees.trees):
        for place, knot in placed_knots(tree[1], ()):
            if knot[0] == "plain":
                rules.append((1, table[place], (keep(2, table[place]),)))
            if knot[0] == "graft":
                roots = [tables[at][()] for at, other in enumerate(trees.trees) if other[0] == knot[1]]
                rules += [(1, table[place], (keep(1, table[place], root),)) for root in roots]
            if knot[0] == "foot":
                rules += [(1, table[place], ()), (1, table[place], (keep(2),))]
            if knot[0] in ("plain", "graft"):
                parts = tuple(part_of(inner, table.get(place + (at,))) for at, inner in enumerate(knot[-1]))
                rules.append((2, table[place], parts))
    return tuple(rules)


def part_of(knot, number):
    """The part for a knot in a knot."""
    if knot[0] == "word":
        return knot
    return keep(1, number) if FOOT in within(knot) else fresh(1, number)


class SlowRuns:
    """The way from tree readings to runs, told by what follows at the feet."""

    def __init__(self, trees):
        self.trees = trees
        self.tables = numbered(trees)
        self.rules = slow_rules(trees)

    def run(self, reading):
        """The run to which a tree reading of kind 0 is led."""
        begun = self.rules.index((0, -1, (fresh(1, self.tables[reading[0]][()]),)))
        return (begun, (self.knot(reading, (), None),))

    def knot(self, reading, place, behind):
        """The run for the knot at this place of the reading's tree; behind tells that for what follows at the foot."""
        knot = self.at(reading, place)
        number = self.tables[reading[0]][place]
        if knot[0] == "plain":
            return (self.rules.index((1, number, (keep(2, number),))), (self.row(reading, place, behind),))
        if knot[0] == "foot" and behind is None:
            return (self.rules.index((1, number, ())), ())
        if knot[0] == "foot":
            return (self.rules.index((1, number, (keep(2),))), (behind(),))
        before = [one for at, one in placed_knots(self.trees.trees[reading[0]][1], ()) if at < place]
        inner = reading[1][len([one for one in before if one[0] == "graft"])]
        rule = (1, number, (keep(1, number, self.tables[inner[0]][()]),))
        return (self.rules.index(rule), (self.knot(inner, (), lambda: self.row(reading, place, behind)),))

    def row(self, reading, place, behind):
        """The run for what stands in the knot at this place of the reading's tree."""
        runs = []
        for at, inner in enumerate(self.at(reading, place)[-1]):
            if inner[0] != "word":
                runs.append(self.knot(reading, place + (at,), behind if FOOT in within(inner) else None))
        number = self.tables[reading[0]][place]
        return ([at for at, rule in enumerate(self.rules) if rule[:2] == (2, number)][0], tuple(runs))

    def at(self, reading, place):
        """The knot at this place of the reading's tree."""
        return dict(placed_knots(self.trees.trees[reading[0]][1], ()))[place]
