"""A desk on which pairs are edited, with questions that are watched: claims and papers are kept while they hold."""

from treestacks.basics import alike, is_between
from treestacks.claims import answer_of, is_question, plain_question
from treestacks.errors import InvalidNumber, InvalidQuestion, InvalidRule, NothingToUndo, Undefined
from treestacks.pairs import Pairs, is_rule, steps_of
from treestacks.papers import claim_holds, paper_for
from treestacks.steps import endless_kind

MOST_RULES_AT_DESK = 12


class Desk:
    """Pairs that are edited, the questions that are watched, and the deeds that led there."""

    def __init__(self, pairs):
        self.pairs = pairs
        self.watched = ()
        self.many = 0
        # Pairs and watched questions ahead of each deed that can be undone, and behind each that can be redone.
        self._before = []
        self._behind = []
        # For each watched question its claim and paper.
        self._kept = {}
        self._report = ()

    def put(self, place, rule):
        """Put rule in ahead of the one with the number place, or behind the last one."""
        rules = self.pairs.rules
        if not is_between(place, 0, len(rules)):
            raise InvalidNumber(place)
        if not is_rule(rule, self.pairs.kinds) or len(rules) >= MOST_RULES_AT_DESK:
            raise InvalidRule(rule)
        self._edit((*rules[:place], rule, *rules[place:]), rule)

    def take(self, place):
        """Take the rule with the number place out."""
        rules = self.pairs.rules
        if not is_between(place, 0, len(rules) - 1):
            raise InvalidNumber(place)
        if len(rules) == 1:
            raise Undefined("alone")
        self._do(Pairs(self.pairs.kinds, rules[:place] + rules[place + 1:]), self.watched)

    def turn(self, place, rule):
        """Put rule in the place of the one with the number place."""
        rules = self.pairs.rules
        if not is_between(place, 0, len(rules) - 1):
            raise InvalidNumber(place)
        if not is_rule(rule, self.pairs.kinds):
            raise InvalidRule(rule)
        self._edit((*rules[:place], rule, *rules[place + 1:]), rule)

    def watch(self, question):
        """Watch question from now on."""
        if not is_question(self.pairs, question):
            raise InvalidQuestion(question)
        watched = self.watched
        if not self._watches(question):
            watched = (*watched, plain_question(question))
        self._do(self.pairs, watched)

    def leave(self, question):
        """Watch question no longer."""
        if not self._watches(question):
            raise Undefined("watched")
        left = plain_question(question)
        self._do(self.pairs, tuple([one for one in self.watched if one != left]))

    def undo(self):
        """Undo the last deed that is not undone."""
        if len(self._before) == 0:
            raise NothingToUndo("undo")
        self._behind.append((self.pairs, self.watched))
        pairs, watched = self._before.pop()
        self._become(pairs, watched)

    def redo(self):
        """Do the last undone deed again."""
        if len(self._behind) == 0:
            raise NothingToUndo("redo")
        self._before.append((self.pairs, self.watched))
        pairs, watched = self._behind.pop()
        self._become(pairs, watched)

    def claim(self, question):
        """Return the claim that is kept for a watched question."""
        claim, _ = self._kept_for(question)
        return claim

    def paper(self, question):
        """Return the paper that is kept for a watched question."""
        _, paper = self._kept_for(question)
        return paper

    def report(self):
        """Return for each watched question a word for what the last deed made of its claim and paper."""
        return self._report

    def _watches(self, value):
        """Tell whether value is a watched question."""
        return is_question(self.pairs, value) and plain_question(value) in self.watched

    def _kept_for(self, question):
        """Return the claim and the paper for a watched question."""
        if not self._watches(question):
            raise Undefined("watched")
        return self._kept[plain_question(question)]

    def _edit(self, rules, rule):
        """Do the deed by which the rules become these, rule among them, which is the new one."""
        if endless_kind(steps_of(self.pairs.kinds, rules)) is not None:
            raise InvalidRule(rule)
        self._do(Pairs(self.pairs.kinds, rules), self.watched)

    def _do(self, pairs, watched):
        """Do a deed that can be undone, by which pairs and watched questions become these."""
        self._before.append((self.pairs, self.watched))
        self._behind = []
        self._become(pairs, watched)

    def _become(self, pairs, watched):
        """Let pairs and watched questions become these, and look at the claims and papers."""
        looked = [looked_at(pairs, question, self._kept.get(question)) for question in watched]
        self.pairs = pairs
        self.watched = watched
        self.many = len(self._before)
        self._kept = {question: kept for question, (kept, _) in zip(watched, looked)}
        self._report = tuple([word for _, word in looked])


def looked_at(pairs, question, kept):
    """Return the claim and paper for question, as a pair, and the word for what came of kept, those so far or None."""
    if kept is not None and claim_holds(pairs, kept[0], kept[1]):
        return (kept, "kept")
    claim = answer_of(pairs, question)
    told = (claim, paper_for(pairs, claim))
    if kept is None:
        return (told, "new")
    return (told, "renewed" if claim == kept[0] else "changed")


def same_state(one, other):
    """Tell whether two desks show and keep the same, and can undo and redo as many deeds."""
    if one.pairs != other.pairs or one.watched != other.watched:
        return False
    if one.many != other.many or len(one._behind) != len(other._behind):
        return False
    return all([alike(one._kept[question], other._kept[question]) for question in one.watched])
