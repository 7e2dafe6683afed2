"""Items for the tests, and a slow way to those that follow that shares no code with the package."""

import itertools


def items_of(kinds, words):
    """All items of a text of so many words, ascending."""
    places = itertools.combinations_with_replacement(range(words + 1), 4)
    return [(kind, *four) for kind, four in itertools.product(range(kinds), list(places))]


def follow_from_word(rule, text):
    """The items that follow from a rule with a word alone."""
    n = len(text)
    for at, word in enumerate(text):
        if word == rule[2] and rule[1] == "left":
            yield from ((rule[0], at, at + 1, k, k) for k in range(at + 1, n + 1))
        elif word == rule[2]:
            yield from ((rule[0], i, i, at, at + 1) for i in range(at + 1))


def follow_from_one(rule, n, one):
    """The items that follow from a rule with one part, of (one, i, j, k, l)."""
    _, i, j, k, l = one
    if rule[1] == "same":
        yield (rule[0], i, j, k, l)
    elif j == k and rule[1] == "first":
        yield from ((rule[0], i, l, behind, behind) for behind in range(l, n + 1))
    elif j == k:
        yield from ((rule[0], ahead, ahead, i, l) for ahead in range(i + 1))


def follow_from_two(rule, one, other):
    """The items that follow from a rule with two parts, of these two."""
    (_, i, j, k, l), (_, a, b, c, d) = one, other
    if rule[1] == "wrap" and a == j and d == k:
        yield (rule[0], i, b, c, l)
    if rule[1] == "ahead" and b == c and d == i:
        yield (rule[0], a, j, k, l)
    if rule[1] == "behind" and a == l and b == c:
        yield (rule[0], i, j, k, d)


def follow(pairs, text, members):
    """All items that follow from a rule alone or from members."""
    by_kind = [[item for item in members if item[0] == kind] for kind in range(pairs.kinds)]
    found = set()
    for rule in pairs.rules:
        if rule[1] in ("left", "right"):
            found.update(follow_from_word(rule, text))
        elif len(rule) == 3:
            for one in by_kind[rule[2]]:
                found.update(follow_from_one(rule, len(text), one))
        else:
            for one, other in itertools.product(by_kind[rule[2]], by_kind[rule[3]]):
                found.update(follow_from_two(rule, one, other))
    return found


def closed(pairs, text, members):
    """Members with all that follow from them and the rules, again and again."""
    known = set(members)
    while True:
        more = follow(pairs, text, known) - known
        if not more:
            return tuple(sorted(known))
        known |= more


def wholes(words):
    """The items of kind 0 that give a whole text of so many words."""
    return {(0, 0, j, j, words) for j in range(words + 1)}


def are_bars(pairs, text, items):
    """Whether a tuple of items is bars, as the document tells."""
    if any(one >= other for one, other in zip(items, items[1:])) or wholes(len(text)) & set(items):
        return False
    return follow(pairs, text, items) <= set(items)
