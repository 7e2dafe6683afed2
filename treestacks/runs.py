"""Trees led into stacks, and tree readings into runs and back.

Where a run of the stacks of trees is gone through, a chain is kept beside each stack: a tuple of what tells, for each
number on the stack, in which tree reading the knot with this number stands.
"""

from treestacks.errors import InvalidReading, InvalidRun
from treestacks.leading import MOST_TREES_TO_LEAD, taken_off
from treestacks.marking import rows_of
from treestacks.stacks import MOST_RULES_OF_RUN, Stacks, inner_parts, inner_stack, run_numbers
from treestacks.trees import tree_numbers


def stacks_of(trees):
    """Return the stacks into which trees is led."""
    return stacks_by(rows_of(trees))


def stacks_by(rows):
    """Return the stacks that have the rules of these rows."""
    return Stacks(tuple([rule for rule, _, _ in rows]))


def run_of(trees, reading):
    """Return the run by stacks_of(trees) into which a tree reading of kind 0 is led."""
    numbers = tree_numbers(trees, reading, MOST_TREES_TO_LEAD)
    if numbers is None or trees.trees[numbers[0]][0] != 0:
        raise InvalidReading(reading)
    rows = rows_of(trees)
    # The parts of a rule stand behind it, so from the end on they are done ahead of it.
    done = []
    for number in reversed(rule_numbers(rows, reading)):
        many = len(inner_parts(rows[number][0]))
        done.append((number, tuple(taken_off(done, many))))
    return done[0]


def rule_numbers(rows, reading):
    """List the numbers of the rules of the run for a tree reading, each ahead of those of its parts."""
    by_top = numbers_by_top(rows)
    numbers = []
    # No function calls itself for the parts: a run may be deeper than calls can be.
    waiting = [(0, (), ())]
    while waiting:
        kind, stack, chain = waiting.pop()
        key = (kind, *stack[-1:])
        fitting = by_top[key]
        _, tree, graft = rows[fitting[0]]
        if tree is not None:
            begun = reading if graft is None else chain[-1][1][graft]
            chain = (*chain, begun)
            number = [one for one in fitting if rows[one][1] == begun[0]][0]
        else:
            # Only a foot has two rules here: the one without parts is for that of the outermost tree.
            number = fitting[0] if len(chain) == 1 else fitting[-1]
        numbers.append(number)
        rule = rows[number][0]
        for part in reversed(inner_parts(rule)):
            waiting.append((part[1], inner_stack(rule, stack, part), inner_chain(chain, part)))
    return numbers


def numbers_by_top(rows):
    """Map (kind, top), and (kind,) where no top is taken off, to the numbers of the rules that have them."""
    found = {}
    for number, (rule, _, _) in enumerate(rows):
        key = (0,) if rule[0] == 0 else (rule[0], rule[1])
        found.setdefault(key, []).append(number)
    return found


def inner_chain(chain, part):
    """Return the chain beside the stack of this part of a rule; where a tree begins, chain has it already."""
    if part[0] == "fresh":
        return chain[-1:]
    # A foot puts nothing on the stack: it goes on behind the graft that its tree is put in at.
    return chain[:-1] if len(part[2]) == 0 else chain


def reading_of_run(trees, run):
    """Return the tree reading that is led into a run by stacks_of(trees)."""
    rows = rows_of(trees)
    numbers = run_numbers(stacks_by(rows), run, MOST_RULES_OF_RUN)
    if numbers is None:
        raise InvalidRun(run)
    # What is put into a tree begins behind it, so from the end on it is done ahead of it.
    done = {}
    found = trees_in_run(rows, numbers)
    for at in reversed(range(len(found))):
        tree, inner = found[at]
        done[at] = (tree, tuple([done[inner[graft]] for graft in range(len(inner))]))
    return done[0]


def trees_in_run(rows, numbers):
    """List for each tree that a run begins its number, and which ones of the list are put in at its grafts."""
    found = []
    waiting = [()]
    for number in numbers:
        chain = waiting.pop()
        rule, tree, graft = rows[number]
        if tree is not None:
            if graft is not None:
                found[chain[-1]][1][graft] = len(found)
            chain = (*chain, len(found))
            found.append((tree, {}))
        for part in reversed(inner_parts(rule)):
            waiting.append(inner_chain(chain, part))
    return found
