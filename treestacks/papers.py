"""Papers from which the truth of claims can be seen."""

from treestacks.basics import alike
from treestacks.claims import answer_of, is_claim
from treestacks.items import bars, bars_hold, many_of_text, tally
from treestacks.lengths import NOT_LIVE, lengths, loop, loop_holds
from treestacks.pairs import MOST_RULES_OF_READING, numbers_of, text_of
from treestacks.reading import some_reading


def paper_of(pairs, question):
    """Return some paper for the answer of question; answer_of refuses what is no question."""
    return paper_for(pairs, answer_of(pairs, question))


def paper_for(pairs, claim):
    """Return some paper for a true claim."""
    if claim[0] == "told":
        return some_reading(pairs, claim[1])
    if claim[0] == "not told":
        return bars(pairs, claim[1])
    if claim[0] == "readings":
        return tally(pairs, claim[1])
    return loop(pairs) if claim[0] == "any" else lengths(pairs)


def claim_holds(pairs, claim, paper):
    """Tell whether claim is a claim and paper a paper for it."""
    if not is_claim(pairs, claim):
        return False
    if claim[0] == "told":
        return is_reading_of(pairs, claim[1], paper)
    if claim[0] == "not told":
        return bars_hold(pairs, claim[1], paper)
    if claim[0] == "readings":
        return is_tally_of(pairs, claim[1], claim[2], paper)
    told = lengths(pairs)
    if claim[0] == "any":
        return told[0] != NOT_LIVE and loop_holds(pairs, paper)
    return told[0] == (claim[1] if claim[0] == "longest" else NOT_LIVE) and alike(paper, told)


def is_reading_of(pairs, text, paper):
    """Tell whether paper is a reading of text."""
    # No reading of a text has more rules: at most 15 that are no steps of kinds, and at most 39 steps above each.
    numbers = numbers_of(pairs, paper, MOST_RULES_OF_READING)
    return numbers is not None and pairs.rules[numbers[0]][0] == 0 and text_of(pairs, paper) == text


def is_tally_of(pairs, text, many, paper):
    """Tell whether paper is what tally tells of text, and many the number of its readings."""
    due = tally(pairs, text)
    return alike(paper, due) and many_of_text(0, 0, len(text), {item: number for item, number in due}) == many
