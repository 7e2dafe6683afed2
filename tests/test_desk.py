import unittest

from asking import CLAIMS, NEITHER, NINE, QUESTIONS, rows
from desks import SlowDesk, act, chances, drawn_deed, led, view
from grammars import EACH_SHAPE, ODD_VALUES, Row, alike, drawn_pairs, is_plain, nested, texts_of
from treestacks.claims import answer_of
from treestacks.desk import Desk, same_state
from treestacks.errors import InvalidNumber, InvalidQuestion, InvalidRule, NothingToUndo, Undefined
from treestacks.pairs import Pairs
from treestacks.papers import claim_holds

A = (0, "left", "a")
B = (0, "right", "b")
W = (0, "wrap", 0, 1)
START = Pairs(3, (A, (1, "right", "b"), W, (2, "same", 0)))
TEXT = ("text", ("a", "b"))
MANY = ("readings", ("a", "b"))
LONGEST = ("longest",)

WRONG_PLACES = (-1, 5, 6, 10 ** 12 - 1, 1 - 10 ** 12, True, False, None, "0", 0.0, (), (0,), [0], START)
WRONG_RULES = (
    (3, "left", "a"), (-1, "left", "a"), (True, "left", "a"), (0, "left", "A"), (0, "left", "abcd"), (0, "left", ""),
    (0, "left", 0), (0, "left"), (0, "left", "a", "b"), (0, "same", 3), (0, "same", "a"), (0, "same", 1, 1),
    (0, "same", True), (0, "wrap", 0), (0, "wrap", 0, 3), (0, "wrap", 0, -1), (0, "wrap", 0, False), (0, "wrap", 0, 0, 0),
    (0, "wrap", 0, "a"), (0, "Left", "a"), (0, "up", "a"), ("left", 0, "a"), [0, "left", "a"], (A,), (A, A), (), "left",
    (0, "left", ["a"]), (0, "left", ("a",)), *ODD_VALUES,
)
ASKED = [LONGEST] + [(word, text) for text in texts_of(("a", "b"), 2) for word in ("text", "readings")]


class DeskCase(unittest.TestCase):
    """What the tests of desks share."""

    def refused(self, desk, error, value, word, *arguments):
        """Whether the deed is refused with this error and argument, and changes nothing."""
        before, kept = view(desk), [(desk.claim(one), desk.paper(one)) for one in desk.watched]
        told = act(desk, word, *arguments)
        self.assertIs(type(told), error, (word, arguments))
        names = {Undefined: "what", NothingToUndo: "word"}
        held = getattr(told, names.get(error, "value"))
        if error in names:
            self.assertEqual(held, value)
        else:
            self.assertIs(held, value)
        self.assertEqual(view(desk), before)
        self.assertEqual([(desk.claim(one), desk.paper(one)) for one in desk.watched], kept)

    def done(self, desk, *deed):
        """Whether the deed is let, and returns None."""
        self.assertIsNone(act(desk, *deed))


class TestDeeds(DeskCase):
    """[19] of the document: what each deed does and refuses."""

    def test_a_new_desk(self):
        desk = Desk(START)
        self.assertEqual((desk.pairs, desk.watched, desk.many, desk.report()), (START, (), 0, ()))
        self.assertIs(type(desk.watched), tuple)
        self.assertIs(type(desk.many), int)
        self.assertIs(type(desk.report()), tuple)
        self.assertEqual(Desk(pairs=START).pairs, START)
        self.refused(desk, NothingToUndo, "undo", "undo")
        self.refused(desk, NothingToUndo, "redo", "redo")

    def test_put(self):
        for place in range(5):
            desk = Desk(START)
            self.done(desk, "put", place, B)
            self.assertEqual(desk.pairs, Pairs(3, START.rules[:place] + (B,) + START.rules[place:]))
            self.assertTrue(is_plain(desk.pairs.rules))
            self.assertEqual(desk.many, 1)
        self.assertEqual(START.rules, (A, (1, "right", "b"), W, (2, "same", 0)))

    def test_put_at_wrong_places(self):
        for place in (*WRONG_PLACES, *[value for value in ODD_VALUES if value != 0]):
            desk = Desk(START)
            self.refused(desk, InvalidNumber, place, "put", place, B)
            self.refused(desk, InvalidNumber, place, "put", place, (0, "same", 0))
            self.refused(desk, InvalidNumber, place, "put", place, None)

    def test_put_of_what_is_no_rule(self):
        for rule in WRONG_RULES:
            for place in (0, 2, 4):
                self.refused(Desk(START), InvalidRule, rule, "put", place, rule)

    def test_a_thirteenth_rule(self):
        desk = Desk(Pairs(1, (A,)))
        for many in range(1, 12):
            self.done(desk, "put", many, A)
        self.assertEqual(desk.pairs, Pairs(1, (A,) * 12))
        for place in (0, 5, 12):
            self.refused(desk, InvalidRule, A, "put", place, A)
            self.refused(desk, InvalidRule, None, "put", place, None)
        self.refused(desk, InvalidNumber, 13, "put", 13, A)
        self.done(desk, "turn", 11, B)
        self.done(desk, "take", 0)
        self.done(desk, "put", 11, A)
        self.assertEqual(desk.pairs, Pairs(1, (A,) * 10 + (B, A)))

    def test_rules_with_which_a_kind_comes_back_to_itself(self):
        for shape in ("same", "first", "last"):
            for rule in ((0, shape, 0), (0, shape, 2), (1, shape, 1), (2, shape, 2)):
                for place in range(5):
                    self.refused(Desk(START), InvalidRule, rule, "put", place, rule)
                for place in range(3):
                    self.refused(Desk(START), InvalidRule, rule, "turn", place, rule)
            for rule in ((2, shape, 0), (1, shape, 0), (2, shape, 1), (0, shape, 1)):
                self.done(Desk(START), "put", 4, rule)
            # In the place of the rule by which kind 2 comes to kind 0, kind 0 may come to kind 2.
            desk = Desk(START)
            self.done(desk, "turn", 3, (0, shape, 2))
            rule = (2, shape, 0)
            self.refused(desk, InvalidRule, rule, "put", 0, rule)
            rule = (2, shape, 1)
            self.done(desk, "put", 0, rule)
            rule = (1, shape, 0)
            self.refused(desk, InvalidRule, rule, "turn", 2, rule)

    def test_a_long_row_of_steps_that_comes_back(self):
        row = tuple((kind, ("same", "first", "last")[kind % 3], kind + 1) for kind in range(7))
        desk = Desk(Pairs(8, row + ((7, "left", "a"),)))
        for rule in ((7, "same", 0), (7, "last", 4), (3, "first", 0)):
            self.refused(desk, InvalidRule, rule, "put", 8, rule)
            self.refused(desk, InvalidRule, rule, "turn", 7, rule)
        self.done(desk, "turn", 3, (0, "left", "a"))
        rule = (7, "same", 0)
        self.done(desk, "put", 8, rule)
        rule = (3, "same", 4)
        self.refused(desk, InvalidRule, rule, "turn", 3, rule)

    def test_take(self):
        for place in range(4):
            desk = Desk(START)
            self.done(desk, "take", place)
            self.assertEqual(desk.pairs, Pairs(3, START.rules[:place] + START.rules[place + 1:]))
            self.assertEqual(desk.many, 1)
        for place in (4, *WRONG_PLACES, *ODD_VALUES):
            self.refused(Desk(START), InvalidNumber, place, "take", place)

    def test_take_of_the_only_rule(self):
        desk = Desk(Pairs(2, (A, B)))
        self.done(desk, "take", 0)
        self.refused(desk, Undefined, "alone", "take", 0)
        for place in (1, 2, -1, True, False, None, (0,)):
            self.refused(desk, InvalidNumber, place, "take", place)
        self.assertEqual(desk.pairs, Pairs(2, (B,)))
        self.done(desk, "put", 1, A)
        self.done(desk, "take", 0)
        self.assertEqual(desk.pairs, Pairs(2, (A,)))

    def test_turn(self):
        for place in range(4):
            desk = Desk(START)
            self.done(desk, "turn", place, B)
            self.assertEqual(desk.pairs, Pairs(3, START.rules[:place] + (B,) + START.rules[place + 1:]))
            self.done(desk, "turn", place, B)
            self.assertEqual(desk.many, 2)
        for place in (4, *WRONG_PLACES, *ODD_VALUES):
            self.refused(Desk(START), InvalidNumber, place, "turn", place, B)
            self.refused(Desk(START), InvalidNumber, place, "turn", place, None)
        for rule in WRONG_RULES:
            for place in (0, 3):
                self.refused(Desk(START), InvalidRule, rule, "turn", place, rule)

    def test_more_than_12_rules_from_the_start(self):
        # The size of what a desk is made with is not checked.
        desk = Desk(Pairs(9, (A,) * 14))
        self.refused(desk, InvalidRule, A, "put", 0, A)
        self.done(desk, "turn", 13, (8, "right", "b"))
        self.done(desk, "take", 0)
        self.assertEqual(desk.pairs, Pairs(9, (A,) * 12 + ((8, "right", "b"),)))

    def test_watch(self):
        desk = Desk(START)
        for many, question in enumerate((TEXT, LONGEST, MANY), 1):
            self.done(desk, "watch", question)
            self.assertEqual(desk.many, many)
        self.assertEqual(desk.watched, (TEXT, LONGEST, MANY))
        self.assertTrue(is_plain(desk.watched))
        self.assertEqual(desk.pairs, START)
        for value in (*NEITHER, *CLAIMS, ("text", NINE), ("readings", NINE), ("text", ["a", "b"]), ["longest"]):
            self.refused(desk, InvalidQuestion, value, "watch", value)

    def test_watch_of_what_is_watched_already(self):
        desk = led(START, ("watch", TEXT), ("watch", LONGEST), ("watch", TEXT))
        self.assertEqual(desk.watched, (TEXT, LONGEST))
        self.assertEqual(desk.many, 3)
        self.assertEqual(desk.report(), ("kept", "kept"))
        self.done(desk, "undo")
        self.assertEqual((desk.watched, desk.many, desk.report()), ((TEXT, LONGEST), 2, ("kept", "kept")))
        self.done(desk, "undo")
        self.done(desk, "redo")
        self.done(desk, "redo")
        self.assertEqual((desk.watched, desk.many, desk.report()), ((TEXT, LONGEST), 3, ("kept", "kept")))
        self.refused(desk, NothingToUndo, "redo", "redo")

    def test_leave(self):
        desk = led(START, ("watch", TEXT), ("watch", LONGEST), ("watch", MANY), ("leave", LONGEST))
        self.assertEqual((desk.watched, desk.many), ((TEXT, MANY), 4))
        for value in (LONGEST, ("text", ("a",)), ("readings", ("a",)), ("text", ("b", "a")), *NEITHER, *CLAIMS,
                      ["text", ("a", "b")], ("text", ["a", "b"]), (TEXT,), desk, nested(5000), ("text", nested(5000))):
            self.refused(desk, Undefined, "watched", "leave", value)
        self.done(desk, "leave", TEXT)
        self.done(desk, "leave", MANY)
        self.assertEqual((desk.watched, desk.report()), ((), ()))
        self.refused(desk, Undefined, "watched", "leave", TEXT)

    def test_watch_again_behind_the_others(self):
        desk = led(START, ("watch", TEXT), ("watch", LONGEST), ("leave", TEXT), ("watch", TEXT))
        self.assertEqual(desk.watched, (LONGEST, TEXT))
        self.assertEqual(desk.report(), ("kept", "new"))
        for watched in ((LONGEST,), (TEXT, LONGEST), (TEXT,), ()):
            self.done(desk, "undo")
            self.assertEqual(desk.watched, watched)
        for watched in ((TEXT,), (TEXT, LONGEST), (LONGEST,), (LONGEST, TEXT)):
            self.done(desk, "redo")
            self.assertEqual(desk.watched, watched)

    def test_undo_and_redo(self):
        desk = Desk(START)
        deeds = (("put", 0, B), ("watch", TEXT), ("take", 1), ("turn", 0, A), ("watch", LONGEST), ("leave", TEXT))
        states = [(START, ())]
        for deed in deeds:
            self.done(desk, *deed)
            states.append((desk.pairs, desk.watched))
        for _ in range(2):
            for at in reversed(range(6)):
                self.done(desk, "undo")
                self.assertEqual((desk.pairs, desk.watched, desk.many), (*states[at], at))
            self.refused(desk, NothingToUndo, "undo", "undo")
            for at in range(1, 7):
                self.done(desk, "redo")
                self.assertEqual((desk.pairs, desk.watched, desk.many), (*states[at], at))
            self.refused(desk, NothingToUndo, "redo", "redo")

    def test_undo_and_redo_are_never_undone(self):
        desk = led(START, ("put", 0, B), ("take", 1), ("undo",), ("undo",), ("redo",))
        self.assertEqual(desk.pairs, Pairs(3, (B, *START.rules)))
        self.done(desk, "undo")
        self.assertEqual((desk.pairs, desk.many), (START, 0))
        self.refused(desk, NothingToUndo, "undo", "undo")
        self.done(desk, "redo")
        self.done(desk, "redo")
        self.assertEqual((desk.pairs, desk.many), (Pairs(3, (B, *START.rules[1:])), 2))

    def test_a_new_deed_ends_what_can_be_redone(self):
        for deed in (("put", 0, A), ("take", 0), ("turn", 0, A), ("watch", MANY), ("watch", TEXT), ("leave", TEXT)):
            desk = led(START, ("watch", TEXT), ("put", 0, B), ("take", 1), ("undo",), ("undo",))
            self.done(desk, *deed)
            self.assertEqual(desk.many, 2)
            self.refused(desk, NothingToUndo, "redo", "redo")
            self.done(desk, "undo")
            self.assertEqual((desk.pairs, desk.watched, desk.many), (START, (TEXT,), 1))

    def test_what_is_refused_ends_nothing(self):
        desk = led(START, ("watch", TEXT), ("put", 0, B), ("undo",))
        self.refused(desk, InvalidNumber, 5, "put", 5, B)
        self.refused(desk, InvalidRule, None, "turn", 0, None)
        self.refused(desk, InvalidQuestion, None, "watch", None)
        self.refused(desk, Undefined, "watched", "leave", LONGEST)
        self.done(desk, "redo")
        self.assertEqual(desk.pairs, Pairs(3, (B, *START.rules)))

    def test_deeds_by_which_nothing_changes(self):
        desk = led(START, ("turn", 0, A), ("watch", TEXT), ("watch", TEXT))
        self.assertEqual((desk.pairs, desk.many), (START, 3))
        for many in (2, 1, 0):
            self.done(desk, "undo")
            self.assertEqual((desk.pairs, desk.many), (START, many))

    def test_pairs_that_were_read_before_stay(self):
        desk = Desk(START)
        read = []
        for deed in (("put", 4, B), ("watch", TEXT), ("take", 0), ("watch", LONGEST), ("turn", 1, A), ("undo",), ("undo",),
                     ("redo",), ("leave", TEXT), ("put", 0, B), ("undo",), ("undo",), ("redo",)):
            pairs, watched = desk.pairs, desk.watched
            read.append((pairs, Pairs(pairs.kinds, tuple(list(pairs.rules))), watched, tuple(list(watched))))
            self.done(desk, *deed)
        for pairs, made, watched, copied in read:
            self.assertIsInstance(pairs, Pairs)
            self.assertEqual(pairs, made)
            self.assertEqual(watched, copied)
        self.assertEqual(START.rules, (A, (1, "right", "b"), W, (2, "same", 0)))

    def test_tuples_of_a_class(self):
        desk = Desk(START)
        self.done(desk, "put", 0, Row(B))
        self.done(desk, "turn", 1, Row(A))
        self.done(desk, "watch", rows(TEXT))
        self.done(desk, "watch", rows(LONGEST))
        self.assertEqual(desk.pairs, Pairs(3, (B, *START.rules)))
        self.assertTrue(is_plain((desk.pairs.rules, desk.watched, desk.report())))
        self.assertEqual(desk.claim(rows(TEXT)), desk.claim(TEXT))
        self.done(desk, "watch", TEXT)
        self.done(desk, "leave", rows(TEXT))
        self.assertEqual(desk.watched, (LONGEST,))

    def test_arguments_by_name(self):
        desk = Desk(START)
        self.assertIsNone(desk.put(rule=B, place=0))
        self.assertIsNone(desk.turn(rule=A, place=0))
        self.assertIsNone(desk.take(place=1))
        self.assertIsNone(desk.watch(question=TEXT))
        self.assertEqual(desk.claim(question=TEXT), answer_of(desk.pairs, TEXT))
        self.assertTrue(claim_holds(desk.pairs, desk.claim(TEXT), desk.paper(question=TEXT)))
        self.assertIsNone(desk.leave(question=TEXT))
        self.assertIs(same_state(other=desk, one=desk), True)

    def test_equal_to_itself_alone_and_not_iterable(self):
        desk, other = Desk(START), Desk(START)
        self.assertTrue(desk == desk)
        self.assertFalse(desk != desk)
        for value in (other, START, None, 0, True, (), [], "", object(), Desk):
            self.assertFalse(desk == value)
            self.assertTrue(desk != value)
        self.assertRaises(TypeError, iter, desk)
        self.assertRaises(TypeError, list, desk)
        with self.assertRaises(TypeError):
            A in desk

    def test_60_deeds_and_8_watched_questions(self):
        desk, slow = Desk(START), SlowDesk(START)
        deeds = [("watch", question) for question in ASKED[:8]]
        deeds += [("turn", at % 4, (at % 3, "left", "ab"[at % 2])) for at in range(22)] + [("undo",)] * 15 + [("redo",)] * 15
        self.assertEqual(len(deeds), 60)
        for deed in deeds:
            self.done(desk, *deed)
            slow.do(*deed)
            pairs, watched = slow.state()
            self.assertEqual((desk.pairs, desk.watched, desk.many), (pairs, watched, len(slow.done)))
        self.assertEqual(len(desk.watched), 8)
        for at in reversed(range(30)):
            self.done(desk, "undo")
            self.assertEqual(desk.many, at)
        self.assertEqual((desk.pairs, desk.watched), (START, ()))

    def test_drawn_deeds(self):
        let = refused = 0
        for seed in range(60):
            chance = chances(seed)
            start = drawn_pairs(seed, 1 + seed % 4, 3 + seed % 9, ("a", "b"))
            desk, slow = Desk(start), SlowDesk(start)
            for _ in range(60):
                deed = drawn_deed(chance, desk.pairs, ASKED[:8 + seed % 3], 20)
                due = slow.refuses(*deed)
                if due is not None:
                    self.refused(desk, *due, *deed)
                    refused += 1
                    continue
                slow.do(*deed)
                self.done(desk, *deed)
                pairs, watched = slow.state()
                self.assertEqual((desk.pairs, desk.watched, desk.many), (pairs, watched, len(slow.done)))
                let += 1
            self.assertEqual(len(slow.undone), redone(desk))
        self.assertGreater(let, 1500)
        self.assertGreater(refused, 500)


class TestSameState(DeskCase):
    """[19] of the document: same_state."""

    def says(self, due, one, other):
        self.assertIs(same_state(one, other), due)
        self.assertIs(same_state(other, one), due)

    def test_desks_led_alike(self):
        deeds = (("watch", TEXT), ("put", 0, B), ("watch", LONGEST), ("undo",), ("take", 1), ("watch", MANY), ("undo",))
        for many in range(len(deeds) + 1):
            one, other = led(START, *deeds[:many]), led(Pairs(3, tuple(list(START.rules))), *deeds[:many])
            self.says(True, one, other)
            self.says(True, one, one)
            if many:
                self.says(False, one, led(START, *deeds[:many - 1]))

    def test_pairs(self):
        self.says(False, Desk(START), Desk(Pairs(4, START.rules)))
        self.says(False, Desk(START), Desk(Pairs(3, START.rules[::-1])))
        self.says(False, led(START, ("turn", 0, A)), led(START, ("turn", 0, B)))
        # The same pairs on other ways of as many deeds.
        self.says(True, led(START, ("turn", 0, B)), led(Pairs(3, (B, *START.rules[1:])), ("turn", 0, B)))
        self.says(True, led(START, ("turn", 0, B)), led(Pairs(3, START.rules[1:]), ("put", 0, B)))

    def test_watched_questions_and_their_order(self):
        one = led(START, ("watch", TEXT), ("watch", LONGEST))
        self.says(False, one, led(START, ("watch", LONGEST), ("watch", TEXT)))
        self.says(False, one, led(START, ("watch", TEXT), ("watch", MANY)))
        self.says(False, one, led(START, ("watch", TEXT), ("watch", TEXT)))
        self.says(False, one, led(START, ("turn", 0, A), ("turn", 0, A)))
        self.says(False, led(START, ("watch", TEXT), ("leave", TEXT)), one)

    def test_what_can_be_undone(self):
        self.says(False, led(START, ("turn", 0, A)), Desk(START))
        self.says(False, led(START, ("watch", TEXT)), led(START, ("watch", TEXT), ("watch", TEXT)))
        self.says(True, led(START, ("put", 0, B), ("take", 0)), led(START, ("turn", 0, B), ("turn", 0, A)))

    def test_what_can_be_redone(self):
        self.says(False, led(START, ("turn", 0, B), ("undo",)), Desk(START))
        self.says(False, led(START, *[("turn", 0, B)] * 2, *[("undo",)] * 2), led(START, ("turn", 0, B), ("undo",)))
        # Whatever these deeds were.
        self.says(True, led(START, ("turn", 0, B), ("undo",)), led(START, ("watch", LONGEST), ("undo",)))
        self.says(True, led(START, ("watch", TEXT), ("take", 0), ("undo",)), led(START, ("watch", TEXT), ("put", 0, A), ("undo",)))

    def test_papers_that_are_kept_differ(self):
        # Behind the same deeds but for their order the paper is another one.
        question = ("text", ("a",))
        start = Pairs(1, ((0, "left", "a"), (0, "left", "b")))
        new = (0, "right", "a")
        early = led(start, ("watch", question), ("turn", 1, new))
        late = led(start, ("turn", 1, new), ("watch", question))
        self.assertEqual((early.pairs, early.watched, early.many), (late.pairs, late.watched, late.many))
        self.assertEqual(early.claim(question), late.claim(question))
        self.assertEqual(early.paper(question), (0,))
        self.assertEqual(late.paper(question), (1,))
        self.says(False, early, late)
        # Without the watching all is the same.
        for desk in (early, late):
            self.done(desk, "leave", question)
        self.says(True, early, late)

    def test_deep_papers(self):
        row = tuple((kind, "same", kind + 1) for kind in range(7)) + ((7, "left", "a"), (7, "behind", 0, 7))
        question = ("text", ("a",) * 8)
        one, other = (led(Pairs(8, row), ("watch", question), ("turn", 0, row[0])) for _ in range(2))
        self.says(True, one, other)
        long = tuple((kind, "same", kind + 1) for kind in range(39)) + ((39, "left", "a"), (39, "ahead", 0, 0))
        one, other = (led(Pairs(40, long), ("watch", question), ("turn", 0, long[0])) for _ in range(2))
        self.says(True, one, other)

    def test_a_deed_of_one_desk_changes_no_other(self):
        one, other, third = Desk(START), Desk(START), led(START, ("watch", TEXT))
        before = view(other), view(third)
        for deed in (("put", 0, B), ("watch", TEXT), ("take", 2), ("turn", 0, A), ("undo",), ("redo",), ("leave", TEXT)):
            self.done(one, *deed)
            self.assertEqual((view(other), view(third)), before)
        self.done(other, "watch", LONGEST)
        self.assertEqual(one.watched, ())
        self.assertEqual(other.watched, (LONGEST,))
        self.assertEqual(view(third), before[1])
        self.assertEqual(START.rules, (A, (1, "right", "b"), W, (2, "same", 0)))

    def test_drawn_ones(self):
        for seed in range(40):
            chance = chances(seed)
            start = drawn_pairs(seed, 2, 5, ("a", "b"))
            one, other = Desk(start), Desk(start)
            for at in range(40):
                deed = drawn_deed(chance, one.pairs, ASKED[:6], 10)
                let = act(one, *deed) is None
                # Each deed changes how many can be undone, or redone.
                self.says(not let, one, other)
                self.assertEqual(act(other, *deed) is None, let)
                self.says(True, one, other)


class TestAnyValues(DeskCase):
    """[19] and [20]: any value, where it may be passed; with [2] and [4]."""

    def test_claim_and_paper(self):
        desk = led(START, ("watch", TEXT), ("watch", LONGEST))
        before = view(desk)
        for value in (MANY, ("text", ("a",)), *NEITHER, *CLAIMS, *[one for one in QUESTIONS if one != LONGEST], desk,
                      ["text", ("a", "b")], ("text", ["a", "b"]), (TEXT,), ["longest"], nested(5000), ("text", nested(5000))):
            for asked in (desk.claim, desk.paper):
                with self.assertRaises(Undefined) as caught:
                    asked(value)
                self.assertIs(type(caught.exception), Undefined)
                self.assertEqual(caught.exception.what, "watched")
        self.assertEqual(view(desk), before)

    def test_arguments_do_not_change(self):
        desk = Desk(START)
        rule, question = [0, "left", "a"], ["text", ["a"]]
        self.refused(desk, InvalidRule, rule, "put", 0, rule)
        self.refused(desk, InvalidQuestion, question, "watch", question)
        self.refused(desk, Undefined, "watched", "leave", question)
        self.assertEqual((rule, question), ([0, "left", "a"], ["text", ["a"]]))

    def test_bools(self):
        desk = Desk(EACH_SHAPE)
        for place in (True, False):
            self.refused(desk, InvalidNumber, place, "put", place, A)
            self.refused(desk, InvalidNumber, place, "take", place)
            self.refused(desk, InvalidNumber, place, "turn", place, A)
        for rule in ((False, "left", "a"), (0, "wrap", True, 0), (0, "same", True), (0, "wrap", 1, False)):
            self.refused(desk, InvalidRule, rule, "turn", 0, rule)
        self.assertTrue(alike(desk.pairs.rules, EACH_SHAPE.rules))


def redone(desk):
    """How many deeds can be redone; they are undone again."""
    many = 0
    while act(desk, "redo") is None:
        many += 1
    for _ in range(many):
        desk.undo()
    return many


if __name__ == "__main__":
    unittest.main()
