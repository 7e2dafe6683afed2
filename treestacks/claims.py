"""Questions that are asked of pairs, and the claims that may answer them."""

from treestacks.basics import MOST_WORDS, is_integer, is_text
from treestacks.errors import InvalidClaim, InvalidQuestion
from treestacks.items import counts_of, many_of_text
from treestacks.lengths import ENDLESS, NOT_LIVE, lengths


def is_question(pairs, value):
    """Tell whether value is a question; this is the same for all pairs."""
    if not isinstance(value, tuple) or len(value) == 0:
        return False
    if value[0] == "longest":
        return len(value) == 1
    return value[0] in ("text", "readings") and len(value) == 2 and is_text(value[1], MOST_WORDS)


def plain_question(question):
    """Return a question that is equal, of plain tuples."""
    return (question[0], *[tuple(text) for text in question[1:]])


def is_claim(pairs, value):
    """Tell whether value is a claim; this is the same for all pairs."""
    if not isinstance(value, tuple) or len(value) == 0:
        return False
    if value[0] in ("any", "nothing"):
        return len(value) == 1
    if value[0] == "longest":
        return len(value) == 2 and is_number(value[1])
    if value[0] in ("told", "not told"):
        return len(value) == 2 and is_text(value[1], MOST_WORDS)
    return value[0] == "readings" and len(value) == 3 and is_text(value[1], MOST_WORDS) and is_number(value[2])


def is_number(value):
    """Tell whether value is an integer from 0 on."""
    return is_integer(value) and value >= 0


def answer_of(pairs, question):
    """Return the one true claim that may answer question."""
    if not is_question(pairs, question):
        raise InvalidQuestion(question)
    if question[0] == "longest":
        return answer_of_length(lengths(pairs)[0])
    text = tuple(question[1])
    many = many_of_text(0, 0, len(text), counts_of(pairs, text))
    if question[0] == "readings":
        return ("readings", text, many)
    return ("told", text) if many > 0 else ("not told", text)


def answer_of_length(told):
    """Return the true claim, if lengths tells this of kind 0."""
    if told == NOT_LIVE:
        return ("nothing",)
    return ("any",) if told == ENDLESS else ("longest", told)


def question_of(pairs, claim):
    """Return the question that claim may answer."""
    if not is_claim(pairs, claim):
        raise InvalidClaim(claim)
    if claim[0] in ("told", "not told"):
        return ("text", tuple(claim[1]))
    return ("readings", tuple(claim[1])) if claim[0] == "readings" else ("longest",)
