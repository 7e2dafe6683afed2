"""Grammars for the tests of lengths, and slow ways to lengths, loops and texts that share no code with the package."""

import itertools
import random

from grammars import SHAPES, has_reading
from treestacks.errors import Endless
from treestacks.pairs import Pairs


def parts_of(rule):
    """The kinds of the parts of a rule."""
    return () if rule[1] in ("left", "right") else rule[2:]


def heights(pairs, most):
    """For each kind the heights, up to most, that readings of it have: that of a rule with a word is 1."""
    found = [set() for _ in range(pairs.kinds)]
    for height in range(1, most + 1):
        new = set()
        for rule in pairs.rules:
            lows = [min(found[part], default=most) for part in parts_of(rule)]
            tops = [height - 1 in found[part] for part in parts_of(rule)]
            if height == 1 and not lows or all(low < height for low in lows) and any(tops):
                new.add(rule[0])
        for kind in new:
            found[kind].add(height)
    return found


def slow_live(pairs):
    """The kinds that have a reading: one that has some has one no higher than there are kinds."""
    return {kind for kind, found in enumerate(heights(pairs, pairs.kinds)) if found}


def slow_lengths(pairs):
    """What lengths should tell: there are readings of any number of words exactly if one is higher than that of kinds."""
    found = heights(pairs, 3 * pairs.kinds)
    best = [0] * pairs.kinds
    for _ in range(pairs.kinds):
        higher = list(best)
        for rule in pairs.rules:
            words = [best[part] for part in parts_of(rule)]
            if 0 not in words:
                higher[rule[0]] = max(higher[rule[0]], sum(words) if words else 1)
        best = higher
    told = []
    for kind in range(pairs.kinds):
        if not found[kind]:
            told.append(-1)
        else:
            told.append(-2 if max(found[kind]) > pairs.kinds else best[kind])
    return tuple(told)


def slow_in_use(pairs):
    """The kinds in use."""
    live = slow_live(pairs)
    known = {0}
    for _ in range(pairs.kinds):
        for rule in pairs.rules:
            if rule[0] in known and live.issuperset(parts_of(rule)):
                known.update(parts_of(rule))
    return known


def slow_loop_holds(pairs, steps):
    """Whether a tuple of (number, side) is a loop, as the document tells."""
    live = slow_live(pairs)
    for at, (number, side) in enumerate(steps):
        rule = pairs.rules[number]
        if not live.issuperset(parts_of(rule)) or side >= len(parts_of(rule)):
            return False
        ahead, ahead_side = steps[at - 1] if at > 0 else steps[-1]
        ahead_parts = parts_of(pairs.rules[ahead])
        if ahead_side >= len(ahead_parts) or ahead_parts[ahead_side] != rule[0]:
            return False
    return 1 <= len(steps) <= 90 and pairs.rules[steps[0][0]][0] in slow_in_use(pairs)


def all_steps(pairs):
    """All (number, side), also such that stand in no loop."""
    return [(number, side) for number in range(len(pairs.rules)) for side in (0, 1)]


def some_loops(pairs, most):
    """All loops of at most so many steps."""
    rows = [()]
    found = []
    for _ in range(most):
        rows = [row + (step,) for row in rows for step in all_steps(pairs) if goes_on(pairs, row, step)]
        found += [row for row in rows if slow_loop_holds(pairs, row)]
    return found


def goes_on(pairs, row, step):
    """Whether step may stand behind a row of steps."""
    if step[1] >= len(parts_of(pairs.rules[step[0]])):
        return False
    return not row or parts_of(pairs.rules[row[-1][0]])[row[-1][1]] == pairs.rules[step[0]][0]


def slow_texts(pairs, many):
    """The texts of so many words that have a reading."""
    words = sorted({rule[2] for rule in pairs.rules if rule[1] in ("left", "right")})
    return tuple(text for text in itertools.product(words, repeat=many) if has_reading(pairs, text))


def drawn_lengths(seed, kinds, many, back):
    """Pairs of so many kinds and rules, the same for each seed: parts are of higher kinds, but back out of 100.

    Some kinds have no rule, or none all of whose parts are live.
    """
    chance = random.Random(seed)
    while True:
        rules = [(kinds - 1, "left", "a")]
        for _ in range(many - 1):
            shape = chance.choice(SHAPES)
            kind = chance.randrange(kinds)
            if shape in ("left", "right") or kind == kinds - 1:
                rules.append((kind, "left", chance.choice(("a", "b"))) if chance.randrange(2) else rules[0])
                continue
            parts = [chance.randrange(kinds) if chance.randrange(100) < back else chance.randrange(kind + 1, kinds)
                     for _ in range(1 if shape in ("same", "first", "last") else 2)]
            rules.append((kind, shape, *parts))
        chance.shuffle(rules)
        try:
            return Pairs(kinds, tuple(rules))
        except Endless:
            pass
