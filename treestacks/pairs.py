"""Grammars of pairs, and what a reading by them gives."""

from treestacks.basics import is_between, is_word
from treestacks.errors import Endless, InvalidNumber, InvalidReading, InvalidRules
from treestacks.steps import endless_kind

MOST_KINDS = 40
MOST_RULES = 90
MOST_RULES_OF_READING = 600

WORD_SHAPES = ("left", "right")
ONE_SHAPES = ("same", "first", "last")
TWO_SHAPES = ("wrap", "ahead", "behind")


class Pairs:
    """A grammar of pairs: the number of its kinds, and its rules."""

    def __init__(self, kinds, rules):
        if not is_between(kinds, 1, MOST_KINDS):
            raise InvalidNumber(kinds)
        if not is_rules(rules, kinds):
            raise InvalidRules(rules)
        endless = endless_kind(steps_of(kinds, rules))
        if endless is not None:
            raise Endless(endless)
        self.kinds = kinds
        # A tuple may be of a class of its own; what is kept is plain, also within.
        self.rules = tuple([tuple(rule) for rule in rules])

    def __eq__(self, other):
        return isinstance(other, Pairs) and self.kinds == other.kinds and self.rules == other.rules


def is_rules(value, kinds):
    """Tell whether value is a tuple of 1 to 90 rules of so many kinds."""
    if not isinstance(value, tuple) or not 1 <= len(value) <= MOST_RULES:
        return False
    return all([is_rule(rule, kinds) for rule in value])


def is_rule(value, kinds):
    """Tell whether value is a rule of so many kinds."""
    if not isinstance(value, tuple) or len(value) < 3 or not isinstance(value[1], str):
        return False
    if not is_between(value[0], 0, kinds - 1):
        return False
    if value[1] in WORD_SHAPES:
        return len(value) == 3 and is_word(value[2])
    if value[1] in ONE_SHAPES:
        return len(value) == 3 and is_between(value[2], 0, kinds - 1)
    if value[1] in TWO_SHAPES:
        return len(value) == 4 and all([is_between(part, 0, kinds - 1) for part in value[2:]])
    return False


def part_kinds(rule):
    """Return the kinds of the parts of a reading that begins with this rule, in order."""
    if rule[1] in WORD_SHAPES:
        return ()
    return rule[2:]


def steps_of(kinds, rules):
    """List for each kind the kinds to which its rules with just one part lead."""
    steps = [[] for _ in range(kinds)]
    for rule in rules:
        if rule[1] in ONE_SHAPES:
            steps[rule[0]].append(rule[2])
    return steps


def pair_of(pairs, reading):
    """Return the pair that reading gives."""
    numbers = numbers_of(pairs, reading, MOST_RULES_OF_READING)
    if numbers is None:
        raise InvalidReading(reading)
    # The parts of a rule stand behind it, so from the end on they are done ahead of it.
    done = []
    for number in reversed(numbers):
        rule = pairs.rules[number]
        given = []
        for _ in part_kinds(rule):
            given.append(done.pop())
        done.append(pair_by(rule, given))
    return done[0]


def text_of(pairs, reading):
    """Return the text of reading: both members of its pair behind each other."""
    first, second = pair_of(pairs, reading)
    return first + second


def kind_of(pairs, reading):
    """Return the kind of reading."""
    numbers = numbers_of(pairs, reading, MOST_RULES_OF_READING)
    if numbers is None:
        raise InvalidReading(reading)
    return pairs.rules[numbers[0]][0]


def numbers_of(pairs, reading, most):
    """List the numbers of the rules of reading, each ahead of those of its parts, the first part first.

    It is None unless reading is a reading of some kind with at most so many rules.
    """
    numbers = []
    # No function calls itself for the parts: a reading may be deeper than calls can be.
    waiting = [(None, reading)]
    while waiting:
        kind, part = waiting.pop()
        if len(numbers) == most or not begins_reading(pairs, kind, part):
            return None
        numbers.append(part[0])
        kinds = part_kinds(pairs.rules[part[0]])
        for at in reversed(range(len(kinds))):
            waiting.append((kinds[at], part[1 + at]))
    return numbers


def plain_reading(pairs, numbers):
    """Return the reading whose rules have these numbers, as numbers_of lists them."""
    done = []
    for number in reversed(numbers):
        parts = [done.pop() for _ in part_kinds(pairs.rules[number])]
        done.append((number, *parts))
    return done[0]


def begins_reading(pairs, kind, value):
    """Tell whether value has the number of a rule of this kind (of any kind, if it is None) and its many parts.

    Whether these parts are readings is not looked at.
    """
    if not isinstance(value, tuple) or len(value) == 0:
        return False
    if not is_between(value[0], 0, len(pairs.rules) - 1):
        return False
    rule = pairs.rules[value[0]]
    return kind in (None, rule[0]) and len(value) == 1 + len(part_kinds(rule))


def pair_by(rule, given):
    """Return the pair that rule gives of the pairs that its parts give."""
    if rule[1] in WORD_SHAPES:
        return ((rule[2],), ()) if rule[1] == "left" else ((), (rule[2],))
    if rule[1] in ONE_SHAPES:
        return pair_of_one(rule[1], given[0])
    return pair_of_two(rule[1], given[0], given[1])


def pair_of_one(shape, pair):
    """Return what a rule of this shape gives of the pair of its one part."""
    first, second = pair
    if shape == "first":
        return (first + second, ())
    if shape == "last":
        return ((), first + second)
    return pair


def pair_of_two(shape, one, other):
    """Return what a rule of this shape gives of the pairs of its two parts."""
    first, second = one
    if shape == "wrap":
        return (first + other[0], other[1] + second)
    if shape == "ahead":
        return (other[0] + other[1] + first, second)
    return (first, second + other[0] + other[1])
