"""Readings of a text: all of them, or some."""

from treestacks.basics import MOST_WORDS, is_text
from treestacks.errors import InvalidText, Undefined
from treestacks.pairs import ONE_SHAPES, WORD_SHAPES, steps_of
from treestacks.steps import kinds_in_order

MOST_WORDS_FOR_ALL = 3
MOST_RULES_FOR_ALL = 6


def readings(pairs, text):
    """Return the ascending tuple of all readings of a text of at most 3 words."""
    if not is_text(text, MOST_WORDS_FOR_ALL):
        raise InvalidText(text)
    if len(pairs.rules) > MOST_RULES_FOR_ALL:
        raise Undefined("size")
    return tuple(sorted(readings_in(chart(pairs, text, True), text)))


def some_reading(pairs, text):
    """Return some reading of a text."""
    if not is_text(text, MOST_WORDS):
        raise InvalidText(text)
    found = readings_in(chart(pairs, text, False), text)
    if len(found) == 0:
        raise Undefined("reading")
    return found[0]


def readings_in(table, text):
    """List the readings of kind 0 in table, one of chart, that have this text."""
    found = []
    for first, second in cuts(text):
        found.extend(table.get((0, first, second), []))
    return found


def chart(pairs, text, whole):
    """Map (kind, first, second) to the readings of this kind that give the pair (first, second).

    The pairs are those that can stand in a reading of text. All readings are listed if whole is True,
    otherwise one, where there is one.
    """
    table = {}
    order = rules_in_order(pairs)
    for size in range(1, len(text) + 1):
        sized = pairs_within(text, size)
        for number in order:
            rule = pairs.rules[number]
            for first, second in sized:
                key = (rule[0], first, second)
                told = table.get(key, [])
                if whole or len(told) == 0:
                    told = told + readings_by(table, number, ways(rule, first, second))
                    table[key] = told if whole else told[:1]
    return table


def rules_in_order(pairs):
    """List the numbers of the rules so that what a rule needs for a pair stands ahead of it.

    A rule with two parts needs pairs of fewer words only, as each reading has a word; a rule with one part
    needs those of its one, of as many words.
    """
    order = []
    for kind in kinds_in_order(steps_of(pairs.kinds, pairs.rules)):
        for number, rule in enumerate(pairs.rules):
            if rule[0] == kind:
                order.append(number)
    return order


def pairs_within(text, size):
    """List each pair of so many words of text, the first member's ahead of the second's, once."""
    found = {}
    for i in range(len(text) + 1):
        for j in range(i, min(i + size, len(text)) + 1):
            rest = size - (j - i)
            for k in range(j, len(text) - rest + 1):
                found[(text[i:j], text[k:k + rest])] = True
    return list(found)


def readings_by(table, number, found_ways):
    """List the readings that begin with the rule of this number, by its ways and the readings in table."""
    found = []
    for way in found_ways:
        begun = [(number,)]
        for part in way:
            begun = [(*reading, inner) for reading in begun for inner in table.get(part, [])]
        found.extend(begun)
    return found


def ways(rule, first, second):
    """List the ways in which rule may give the pair (first, second).

    A way is a tuple of what each part has to be: its kind and both members of its pair.
    """
    if rule[1] in WORD_SHAPES:
        word = ((rule[2],), ()) if rule[1] == "left" else ((), (rule[2],))
        return [()] if (first, second) == word else []
    if rule[1] in ONE_SHAPES:
        return [(part,) for part in ways_of_one(rule, first, second)]
    return ways_of_two(rule, first, second)


def ways_of_one(rule, first, second):
    """List what the one part of such a rule may be, so that the rule gives (first, second)."""
    one = rule[2]
    if rule[1] == "same":
        return [(one, first, second)]
    joined, empty = (first, second) if rule[1] == "first" else (second, first)
    if len(empty) > 0:
        return []
    return [(one, ahead, behind) for ahead, behind in cuts(joined)]


def ways_of_two(rule, first, second):
    """List what the two parts of such a rule may be, so that the rule gives (first, second)."""
    one, other = rule[2:]
    if rule[1] == "wrap":
        return [((one, a, b), (other, c, d)) for a, c in cuts(first) for d, b in cuts(second)]
    if rule[1] == "ahead":
        return [((one, a, second), (other, c, d)) for put, a in cuts(first) for c, d in cuts(put)]
    return [((one, first, b), (other, c, d)) for b, put in cuts(second) for c, d in cuts(put)]


def cuts(row):
    """List the ways to cut row, a tuple, into what stands ahead and what stands behind."""
    return [(row[:at], row[at:]) for at in range(len(row) + 1)]
