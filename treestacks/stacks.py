"""Grammars of stacks, and runs: kinds that carry a stack, and what text a run of them has."""

from treestacks.basics import is_between, is_word
from treestacks.errors import InvalidRules, InvalidRun

MOST_STACK_RULES = 1200
MOST_PARTS = 12
MOST_PUSHED = 2
MOST_RULES_OF_RUN = 600
LAST_STACK_KIND = 2
LAST_TOP = 199
NO_TOP = -1


class Stacks:
    """A grammar of stacks: its rules."""

    def __init__(self, rules):
        if not is_stack_rules(rules):
            raise InvalidRules(rules)
        # A tuple may be of a class of its own; what is kept is plain, also within.
        self.rules = tuple([plain_stack_rule(rule) for rule in rules])

    def __eq__(self, other):
        return isinstance(other, Stacks) and self.rules == other.rules


def is_stack_rules(value):
    """Tell whether value is a tuple of 1 to 1,200 stack rules."""
    if not isinstance(value, tuple) or not 1 <= len(value) <= MOST_STACK_RULES:
        return False
    return all([is_stack_rule(rule) for rule in value])


def is_stack_rule(value):
    """Tell whether value is a stack rule."""
    if not isinstance(value, tuple) or len(value) != 3:
        return False
    if not is_between(value[0], 0, LAST_STACK_KIND) or not is_between(value[1], NO_TOP, LAST_TOP):
        return False
    parts = value[2]
    if not isinstance(parts, tuple) or len(parts) > MOST_PARTS or not all([is_part(part) for part in parts]):
        return False
    return len([part for part in parts if part[0] == "keep"]) <= 1


def is_part(value):
    """Tell whether value is a part of a stack rule."""
    if not isinstance(value, tuple) or len(value) == 0:
        return False
    if value[0] == "word":
        return len(value) == 2 and is_word(value[1])
    if value[0] == "fresh" or value[0] == "keep":
        return len(value) == 3 and is_between(value[1], 0, LAST_STACK_KIND) and is_pushed(value[2])
    return False


def is_pushed(value):
    """Tell whether value is a tuple of at most 2 numbers below 200."""
    if not isinstance(value, tuple) or len(value) > MOST_PUSHED:
        return False
    return all([is_between(number, 0, LAST_TOP) for number in value])


def plain_stack_rule(rule):
    """Return a stack rule that is equal, of plain tuples."""
    parts = [tuple(part) if part[0] == "word" else (part[0], part[1], tuple(part[2])) for part in rule[2]]
    return (rule[0], rule[1], tuple(parts))


def run_text(stacks, run):
    """Return the text of a run of kind 0 with the stack ()."""
    numbers = run_numbers(stacks, run, MOST_RULES_OF_RUN)
    if numbers is None:
        raise InvalidRun(run)
    # The parts of a rule stand behind it, so from the end on they are done ahead of it.
    done = []
    for number in reversed(numbers):
        text = ()
        for part in stacks.rules[number][2]:
            text = text + ((part[1],) if part[0] == "word" else done.pop())
        done.append(text)
    return done[0]


def run_numbers(stacks, run, most):
    """List the numbers of the rules of run, each ahead of those of its parts, the first part first.

    It is None unless run is a run of kind 0 with the stack (), with at most so many rules.
    """
    numbers = []
    # No function calls itself for the parts: a run may be deeper than calls can be.
    waiting = [(0, (), run)]
    while waiting:
        kind, stack, value = waiting.pop()
        if len(numbers) == most or not begins_run(stacks, kind, stack, value):
            return None
        numbers.append(value[0])
        rule = stacks.rules[value[0]]
        parts = inner_parts(rule)
        for at in reversed(range(len(parts))):
            waiting.append((parts[at][1], inner_stack(rule, stack, parts[at]), value[1][at]))
    return numbers


def begins_run(stacks, kind, stack, value):
    """Tell whether value begins a run of this kind with this stack: a fitting rule's number and its many runs.

    Whether these are runs is not looked at.
    """
    if not isinstance(value, tuple) or len(value) != 2 or not isinstance(value[1], tuple):
        return False
    if not is_between(value[0], 0, len(stacks.rules) - 1):
        return False
    rule = stacks.rules[value[0]]
    return rule_fits(rule, kind, stack) and len(value[1]) == len(inner_parts(rule))


def rule_fits(rule, kind, stack):
    """Tell whether rule can be used by this kind with this stack."""
    if rule[0] != kind or rule[1] not in (NO_TOP, *stack[-1:]):
        return False
    keeps = [part for part in rule[2] if part[0] == "keep"]
    return len(keeps) == 1 or len(stack_left(rule, stack)) == 0


def stack_left(rule, stack):
    """Return what is left of stack when rule has taken its top off."""
    return stack if rule[1] == NO_TOP else stack[:-1]


def inner_parts(rule):
    """List the parts of rule that are no words, in order."""
    return [part for part in rule[2] if part[0] != "word"]


def inner_stack(rule, stack, part):
    """Return the stack that the kind of this part of rule has, if rule is used with stack."""
    return part[2] if part[0] == "fresh" else stack_left(rule, stack) + part[2]
