"""Items of a text: why it has no reading, and how many readings it has."""

from treestacks.basics import MOST_WORDS, is_between, is_text
from treestacks.errors import InvalidText, Undefined
from treestacks.pairs import ONE_SHAPES, WORD_SHAPES
from treestacks.reading import rules_in_order


def bars(pairs, text):
    """Return some bars for a text that has no reading."""
    if not is_text(text, MOST_WORDS):
        raise InvalidText(text)
    # An item has a reading exactly if it follows from rules and items that follow: so these are the fewest bars.
    counts = counts_of(pairs, text)
    if has_whole(counts, len(text)):
        raise Undefined("bars")
    return tuple(sorted(counts))


def bars_hold(pairs, text, value):
    """Tell whether text is a text and value bars for it."""
    if not is_text(text, MOST_WORDS) or not is_items(value, pairs.kinds, len(text)):
        return False
    held = {tuple(item): 1 for item in value}
    return not has_whole(held, len(text)) and is_closed(pairs, text, held)


def tally(pairs, text):
    """Return the ascending tuple of each item that has readings, with their number."""
    if not is_text(text, MOST_WORDS):
        raise InvalidText(text)
    counts = counts_of(pairs, text)
    return tuple([(item, counts[item]) for item in sorted(counts)])


def is_items(value, kinds, words):
    """Tell whether value is an ascending tuple of items of a text of so many words."""
    if not isinstance(value, tuple) or not all([is_item(item, kinds, words) for item in value]):
        return False
    return all([value[at] < value[at + 1] for at in range(len(value) - 1)])


def is_item(value, kinds, words):
    """Tell whether value is an item of a text of so many words."""
    if not isinstance(value, tuple) or len(value) != 5 or not is_between(value[0], 0, kinds - 1):
        return False
    low = 0
    for place in value[1:]:
        if not is_between(place, low, words):
            return False
        low = place
    return True


def all_places(words):
    """List the places (i, j, k, l) of the items of a text of so many words."""
    ends = range(words + 1)
    return [(i, j, k, l) for l in ends for k in range(l + 1) for j in range(k + 1) for i in range(j + 1)]


def has_whole(counts, words):
    """Tell whether among these items is one of kind 0 that gives the whole text."""
    return many_of_text(0, 0, words, counts) > 0


def is_closed(pairs, text, held):
    """Tell whether all items that follow from a rule alone or from members of held are in held."""
    places_of_text = all_places(len(text))
    for rule in pairs.rules:
        for places in places_of_text:
            if (rule[0], *places) not in held and many_by(rule, text, places, held) > 0:
                return False
    return True


def counts_of(pairs, text):
    """Map each item that has readings to their number."""
    counts = {}
    order = rules_in_order(pairs)
    places_of_text = all_places(len(text))
    for size in range(1, len(text) + 1):
        sized = [(i, j, k, l) for i, j, k, l in places_of_text if j - i + l - k == size]
        for number in order:
            rule = pairs.rules[number]
            for places in sized:
                many = many_by(rule, text, places, counts)
                if many > 0:
                    item = (rule[0], *places)
                    counts[item] = counts.get(item, 0) + many
    return counts


def many_by(rule, text, places, counts):
    """Return in how many ways the item of this rule's kind at these places follows by the rule.

    A way that needs other items counts as often as the product of their numbers in counts.
    """
    shape = rule[1]
    if shape in WORD_SHAPES:
        return many_by_word(rule, text, places)
    if shape in ONE_SHAPES:
        return many_by_one(rule, places, counts)
    if shape == "wrap":
        return many_by_wrap(rule, places, counts)
    if shape == "ahead":
        return many_by_ahead(rule, places, counts)
    return many_by_behind(rule, places, counts)


def many_by_word(rule, text, places):
    """Return many_by of a rule "left" or "right"."""
    i, j, k, l = places
    begin, width, empty = (i, j - i, l - k) if rule[1] == "left" else (k, l - k, j - i)
    return 1 if width == 1 and empty == 0 and text[begin] == rule[2] else 0


def many_by_one(rule, places, counts):
    """Return many_by of a rule "same", "first" or "last"."""
    i, j, k, l = places
    if rule[1] == "same":
        return counts.get((rule[2], i, j, k, l), 0)
    if rule[1] == "first":
        return many_of_text(rule[2], i, j, counts) if k == l else 0
    return many_of_text(rule[2], k, l, counts) if i == j else 0


def many_by_wrap(rule, places, counts):
    """Return many_by of a rule "wrap"."""
    i, g, h, l = places
    one, other = rule[2:]
    total = 0
    for j in range(i, g + 1):
        for k in range(h, l + 1):
            many = counts.get((one, i, j, k, l), 0)
            if many > 0:
                total += many * counts.get((other, j, g, h, k), 0)
    return total


def many_by_ahead(rule, places, counts):
    """Return many_by of a rule "ahead"."""
    g, j, k, l = places
    one, other = rule[2:]
    total = 0
    for i in range(g, j + 1):
        many = counts.get((one, i, j, k, l), 0)
        if many > 0:
            total += many * many_of_text(other, g, i, counts)
    return total


def many_by_behind(rule, places, counts):
    """Return many_by of a rule "behind"."""
    i, j, k, h = places
    one, other = rule[2:]
    total = 0
    for l in range(k, h + 1):
        many = counts.get((one, i, j, k, l), 0)
        if many > 0:
            total += many * many_of_text(other, l, h, counts)
    return total


def many_of_text(kind, begin, end, counts):
    """Return the sum of the numbers of the items of kind that give all words from begin on ahead of end."""
    return sum([counts.get((kind, begin, at, at, end), 0) for at in range(begin, end + 1)])
