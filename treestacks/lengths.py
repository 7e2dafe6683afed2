"""How long texts can be, loops, by which they can be longer than any number, and the texts of a told length."""

from treestacks.basics import is_between
from treestacks.errors import InvalidNumber, Undefined
from treestacks.pairs import WORD_SHAPES, Pairs, pair_by, part_kinds
from treestacks.reading import rules_in_order
from treestacks.steps import kinds_behind, kinds_in_order

MOST_STEPS = 90
MOST_WORDS_OF_TEXTS = 4
MOST_RULES_FOR_TEXTS = 9
NOT_LIVE = -1
ENDLESS = -2


def lengths(pairs):
    """Return for each kind the greatest number of words of its readings, -2 if there is none, -1 if it has none."""
    live = live_kinds(pairs)
    steps = live_steps(pairs, live)
    looping = [kind for kind in range(pairs.kinds) if kind in kinds_behind(steps, kind)]
    told = {}
    for kind in range(pairs.kinds):
        if kind not in live:
            told[kind] = NOT_LIVE
        elif any([one in looping for one in (kind, *kinds_behind(steps, kind))]):
            told[kind] = ENDLESS
    # The other kinds lead to each other only, and none comes back to itself.
    bounded = [[] if kind in told else steps[kind] for kind in range(pairs.kinds)]
    for kind in kinds_in_order(bounded):
        if kind not in told:
            told[kind] = max([words_by(rule, told) for rule in live_rules(pairs, live) if rule[0] == kind])
    return tuple([told[kind] for kind in range(pairs.kinds)])


def words_by(rule, told):
    """Return the greatest number of words of a reading by rule, by those of its parts."""
    if rule[1] in WORD_SHAPES:
        return 1
    return sum([told[part] for part in part_kinds(rule)])


def live_kinds(pairs):
    """List the kinds that have a reading."""
    live = []
    before = -1
    while before < len(live):
        before = len(live)
        for rule in pairs.rules:
            if rule[0] not in live and is_live(rule, live):
                live.append(rule[0])
    return live


def is_live(rule, live):
    """Tell whether all parts of rule are live."""
    return all([part in live for part in part_kinds(rule)])


def live_rules(pairs, live):
    """List the rules all of whose parts are live."""
    return [rule for rule in pairs.rules if is_live(rule, live)]


def live_steps(pairs, live):
    """List for each kind the parts of its rules all of whose parts are live."""
    steps = [[] for _ in range(pairs.kinds)]
    for rule in live_rules(pairs, live):
        steps[rule[0]].extend(part_kinds(rule))
    return steps


def kinds_in_use(steps):
    """List the kinds in use, by the steps of live_steps."""
    return [0, *kinds_behind(steps, 0)]


def longest(pairs):
    """Return the greatest number of words of a text, or None if there are texts of more words than any number."""
    told = lengths(pairs)[0]
    if told == NOT_LIVE:
        raise Undefined("text")
    return None if told == ENDLESS else told


def loop(pairs):
    """Return some loop."""
    if lengths(pairs)[0] != ENDLESS:
        raise Undefined("loop")
    live = live_kinds(pairs)
    steps = live_steps(pairs, live)
    looping = [kind for kind in kinds_in_use(steps) if kind in kinds_behind(steps, kind)]
    return way_back(pairs, live, looping[0])


def way_back(pairs, live, kind):
    """Return the steps of a loop, as few as can be, by which kind comes back to itself."""
    reached = []
    ways = [(kind, ())]
    # This ends, as kind does come back.
    while True:
        at, way = ways.pop(0)
        for step in steps_from(pairs, live, at):
            part = part_behind(pairs, step)
            if part == kind:
                return (*way, step)
            if part not in reached:
                reached.append(part)
                ways.append((part, (*way, step)))


def steps_from(pairs, live, kind):
    """List the steps of loops with a rule of this kind."""
    steps = []
    for number, rule in enumerate(pairs.rules):
        if rule[0] == kind and is_live(rule, live):
            steps.extend([(number, side) for side in range(len(part_kinds(rule)))])
    return steps


def part_behind(pairs, step):
    """Return the kind that stands on the side of step."""
    number, side = step
    return part_kinds(pairs.rules[number])[side]


def loop_holds(pairs, value):
    """Tell whether value is a loop."""
    if not isinstance(value, tuple) or not 1 <= len(value) <= MOST_STEPS:
        return False
    live = live_kinds(pairs)
    if not all([is_step(pairs, live, step) for step in value]):
        return False
    kinds = [pairs.rules[number][0] for number, _ in value]
    if kinds[0] not in kinds_in_use(live_steps(pairs, live)):
        return False
    # The step ahead of the first one is the last one.
    return all([part_behind(pairs, value[at - 1]) == kinds[at] for at in range(len(value))])


def is_step(pairs, live, value):
    """Tell whether value is a step by a rule all of whose parts are live."""
    if not isinstance(value, tuple) or len(value) != 2 or not is_between(value[0], 0, len(pairs.rules) - 1):
        return False
    rule = pairs.rules[value[0]]
    return is_between(value[1], 0, len(part_kinds(rule)) - 1) and is_live(rule, live)


def texts(pairs, many):
    """Return the ascending tuple of the texts of so many words, at most 4, that have a reading."""
    if not is_between(many, 0, MOST_WORDS_OF_TEXTS):
        raise InvalidNumber(many)
    if len(pairs.rules) > MOST_RULES_FOR_TEXTS:
        raise Undefined("size")
    table = {}
    order = rules_in_order(pairs)
    for size in range(1, many + 1):
        for number in order:
            rule = pairs.rules[number]
            found = table.setdefault((rule[0], size), {})
            for pair in sized_pairs(rule, size, table):
                found[pair] = True
    told = {first + second: True for first, second in table.get((0, many), {})}
    return tuple(sorted(told))


def sized_pairs(rule, size, table):
    """List the pairs of so many words that rule gives, by those in table, perhaps some more than once."""
    kinds = part_kinds(rule)
    if len(kinds) == 0:
        return [pair_by(rule, [])] if size == 1 else []
    if len(kinds) == 1:
        return [pair_by(rule, [one]) for one in table.get((kinds[0], size), {})]
    found = []
    for share in range(1, size):
        others = table.get((kinds[1], size - share), {})
        found.extend([pair_by(rule, [one, other]) for one in table.get((kinds[0], share), {}) for other in others])
    return found


def four_parts():
    """Return pairs whose texts are those of as many a, b, c and d, in this order, at least one of each."""
    return Pairs(8, (
        (0, "wrap", 1, 2),
        (0, "wrap", 3, 2),
        (1, "wrap", 3, 0),
        (2, "wrap", 4, 5),
        (3, "wrap", 6, 7),
        (4, "left", "b"),
        (5, "right", "c"),
        (6, "left", "a"),
        (7, "right", "d"),
    ))
