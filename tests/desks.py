"""A slow desk for the tests: it keeps what was done, and does it all again from the start to tell its state."""

import random

from measuring import parts_of
from treestacks.claims import answer_of
from treestacks.desk import Desk
from treestacks.errors import (
    GraftError, InvalidNumber, InvalidQuestion, InvalidRule, NothingToUndo, Undefined,
)
from treestacks.pairs import Pairs
from treestacks.papers import claim_holds, paper_of

SHAPES = {"left": 0, "right": 0, "same": 1, "first": 1, "last": 1, "wrap": 2, "ahead": 2, "behind": 2}


def is_rule(value, kinds):
    """Whether value is a rule of so many kinds."""
    def is_kind(part):
        return type(part) is int and 0 <= part < kinds

    if type(value) is not tuple or not 3 <= len(value) <= 4 or type(value[1]) is not str or not is_kind(value[0]):
        return False
    if SHAPES.get(value[1]) == 0:
        word = value[2]
        return len(value) == 3 and type(word) is str and 1 <= len(word) <= 3 and set(word) <= set("abcdefghijklmnopqrstuvwxyz")
    return len(value) == 2 + SHAPES.get(value[1], -1) and all(is_kind(part) for part in value[2:])


def comes_back(rules):
    """Whether a kind comes back to itself by rules with one part: there are no more steps than rules then."""
    steps = {(rule[0], rule[2]) for rule in rules if len(parts_of(rule)) == 1}
    reached = set(steps)
    for _ in rules:
        reached |= {(one, last) for one, other in reached for first, last in steps if other == first}
    return any(one == other for one, other in reached)


def is_question(value):
    """Whether value is a question, of the plain ones."""
    if type(value) is not tuple or not value or type(value[0]) is not str:
        return False
    if value[0] == "longest":
        return len(value) == 1
    text = value[1] if len(value) == 2 else None
    return value[0] in ("text", "readings") and type(text) is tuple and len(text) <= 8 and all(
        is_rule((0, "left", word), 1) for word in text)


class SlowDesk:
    """What a desk should show."""

    def __init__(self, pairs):
        self.start = pairs
        self.done = []
        self.undone = []
        self.kept = {}
        self.told = ()

    def state(self):
        """The pairs and the watched questions behind all that is not undone."""
        rules, watched = list(self.start.rules), []
        for word, *arguments in self.done:
            if word == "put":
                rules.insert(*arguments)
            elif word == "take":
                del rules[arguments[0]]
            elif word == "turn":
                rules[arguments[0]] = arguments[1]
            elif word == "watch" and arguments[0] not in watched:
                watched.append(arguments[0])
            elif word == "leave":
                watched.remove(arguments[0])
        return Pairs(self.start.kinds, tuple(rules)), tuple(watched)

    def refuses(self, word, *arguments):
        """The error, as a class and its argument, that the deed raises; None where it is let."""
        pairs, watched = self.state()
        rules, kinds = pairs.rules, pairs.kinds
        if word in ("put", "take", "turn"):
            place = arguments[0]
            if type(place) is not int or not 0 <= place <= len(rules) - (word != "put"):
                return InvalidNumber, place
        if word == "take":
            return (Undefined, "alone") if len(rules) == 1 else None
        if word in ("put", "turn"):
            rule = arguments[1]
            if not is_rule(rule, kinds) or word == "put" and len(rules) >= 12:
                return InvalidRule, rule
            changed = rules[:place] + (rule,) + rules[place + (word == "turn"):]
            return (InvalidRule, rule) if comes_back(changed) else None
        if word == "watch":
            return None if is_question(arguments[0]) else (InvalidQuestion, arguments[0])
        if word == "leave":
            return None if is_question(arguments[0]) and arguments[0] in watched else (Undefined, "watched")
        return None if (self.done if word == "undo" else self.undone) else (NothingToUndo, word)

    def do(self, word, *arguments):
        """Do a deed that is let."""
        if word == "undo":
            self.undone.append(self.done.pop())
        elif word == "redo":
            self.done.append(self.undone.pop())
        else:
            self.done.append((word, *arguments))
            self.undone = []
        self.look()

    def look(self):
        """Look at claims and papers."""
        pairs, watched = self.state()
        before, self.kept, words = self.kept, {}, []
        for question in watched:
            new = (answer_of(pairs, question), paper_of(pairs, question))
            if question not in before:
                self.kept[question] = new
                words.append("new")
            elif claim_holds(pairs, *before[question]):
                self.kept[question] = before[question]
                words.append("kept")
            else:
                self.kept[question] = new
                words.append("renewed" if new[0] == before[question][0] else "changed")
        self.told = tuple(words)


def act(desk, word, *arguments):
    """Do the deed of this name; return the error that it raises, or None."""
    deed = {"put": desk.put, "take": desk.take, "turn": desk.turn, "watch": desk.watch, "leave": desk.leave,
            "undo": desk.undo, "redo": desk.redo}[word]
    try:
        if deed(*arguments) is not None:
            raise AssertionError("a deed returns None")
    except GraftError as error:
        return error
    return None


def view(desk):
    """All that a desk shows."""
    kept = [(question, desk.claim(question), desk.paper(question)) for question in desk.watched]
    return (desk.pairs.kinds, desk.pairs.rules, desk.watched, desk.many, desk.report(), kept)


def led(pairs, *deeds):
    """A desk with these pairs that is led through these deeds, all of which are let."""
    desk = Desk(pairs)
    for deed in deeds:
        error = act(desk, *deed)
        if error is not None:
            raise AssertionError((deed, error))
    return desk


def drawn_deed(chance, pairs, asked, wild):
    """A deed drawn by chance for a desk with such pairs; wild out of 100 are of the kinds that are refused."""
    word = chance.choice(("put", "put", "take", "turn", "turn", "watch", "watch", "watch", "leave", "undo", "undo", "redo"))
    place = chance.randrange(len(pairs.rules) + (word == "put"))
    shape = chance.choice(tuple(SHAPES))
    parts = [chance.randrange(pairs.kinds) for _ in range(SHAPES[shape])] or [chance.choice(("a", "b"))]
    rule = (chance.randrange(pairs.kinds), shape, *parts)
    question = chance.choice(asked)
    if chance.randrange(100) < wild:
        place = chance.choice((-1, len(pairs.rules) + 1, True, None, "0", place))
        rule = chance.choice(((pairs.kinds, "left", "a"), (0, "same", 0), (0, "left", "A"), (0, "wrap", 0), None, [rule], rule))
        question = chance.choice((("text", ("A",)), ("longest", 1), None, ["longest"], ("told", ("a",)), question))
    return {"put": (word, place, rule), "take": (word, place), "turn": (word, place, rule), "watch": (word, question),
            "leave": (word, question)}.get(word, (word,))


def chances(seed):
    return random.Random(seed)
