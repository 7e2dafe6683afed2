"""A slow way to whether a paper holds for a claim that shares no code with the package, and papers with a change."""

import itertools

from following import are_bars, items_of
from grammars import alike, all_of_kinds
from measuring import slow_lengths, slow_live, slow_loop_holds


def rule_of(pairs, number):
    """The rule of this number; None where there is none."""
    return pairs.rules[number] if type(number) is int and 0 <= number < len(pairs.rules) else None


class Judge:
    """What holds by some pairs, for texts of at most so many words."""

    def __init__(self, pairs, most):
        self.pairs = pairs
        self.known = all_of_kinds(pairs, most)
        self.lengths = slow_lengths(pairs)

    def readings(self, text):
        """All readings of a text."""
        return [reading for reading, (first, second) in self.known[0] if first + second == text]

    def tally(self, text):
        """What tally should tell."""
        found = {}
        ends = range(len(text) + 1)
        for kind, known in enumerate(self.known):
            for _, (first, second) in known:
                for i, k in itertools.product(ends, ends):
                    j, l = i + len(first), k + len(second)
                    if j <= k and l <= len(text) and text[i:j] == first and text[k:l] == second:
                        found[(kind, i, j, k, l)] = found.get((kind, i, j, k, l), 0) + 1
        return tuple(sorted(found.items()))

    def answers(self, text):
        """The true claims of a text."""
        many = len(self.readings(text))
        return [("told" if many else "not told", text), ("readings", text, many)]

    def holds(self, claim, paper):
        """Whether paper is one for claim."""
        if claim[0] == "told":
            return any(alike(paper, reading) for reading in self.readings(claim[1]))
        if claim[0] == "not told":
            return self.are_bars(claim[1], paper)
        if claim[0] == "readings":
            return claim[2] == len(self.readings(claim[1])) and alike(paper, self.tally(claim[1]))
        if claim[0] == "any":
            return 0 in slow_live(self.pairs) and self.is_loop(paper)
        due = claim[1] if claim[0] == "longest" else -1
        return self.lengths[0] == due and alike(paper, self.lengths)

    def are_bars(self, text, paper):
        """Whether paper is bars for a text."""
        items = items_of(self.pairs.kinds, len(text))
        if type(paper) is not tuple or not all(any(alike(one, item) for item in items) for one in paper):
            return False
        return are_bars(self.pairs, text, paper)

    def is_loop(self, paper):
        """Whether paper is a loop."""
        if type(paper) is not tuple or not all(type(step) is tuple and len(step) == 2 for step in paper):
            return False
        if not all(rule_of(self.pairs, number) and type(side) is int and side in (0, 1) for number, side in paper):
            return False
        return slow_loop_holds(self.pairs, paper)


def changes(value):
    """The values that are made of value by a change at one place."""
    if type(value) is int:
        yield from (value + 1, value - 1, str(value), None, (value,))
        if value in (0, 1):
            yield bool(value)
    elif type(value) is str:
        yield from ("", value + "a", 0, (value,))
    else:
        yield list(value)
        yield value + ((),)
        yield (value,)
        for at, part in enumerate(value):
            yield value[:at] + value[at + 1:]
            yield value[:at] + (part,) + value[at:]
            for changed in changes(part):
                yield value[:at] + (changed,) + value[at + 1:]
