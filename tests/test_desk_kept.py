import unittest

from asking import rows
from desks import SlowDesk, act, chances, drawn_deed, led, view
from grammars import alike, drawn_pairs, is_plain, texts_of
from judging import Judge
from treestacks.claims import answer_of
from treestacks.desk import Desk
from treestacks.errors import Undefined
from treestacks.lengths import four_parts
from treestacks.pairs import Pairs
from treestacks.papers import claim_holds, paper_of

A = (0, "left", "a")
B = (0, "left", "b")
RIGHT_A = (0, "right", "a")
ONE = Pairs(2, (A, B))
TEXT = ("text", ("a",))
TWO = ("text", ("a", "a"))
MANY = ("readings", ("a",))
LONGEST = ("longest",)
ASKED = [LONGEST] + [(word, text) for text in texts_of(("a", "b"), 2) for word in ("text", "readings")]


class TestKept(unittest.TestCase):
    """[20] of the document, and so (11) of its overview: claims, papers and report."""

    def shows(self, desk, question, claim, paper, word):
        """Whether a desk with one watched question shows this for it."""
        self.assertEqual(desk.watched, (question,))
        self.assertEqual((desk.claim(question), desk.paper(question), desk.report()), (claim, paper, (word,)))
        self.assertTrue(is_plain((desk.claim(question), desk.paper(question), desk.report())))
        self.assertIs(claim_holds(desk.pairs, claim, paper), True)

    def not_watched(self, desk, value):
        before = view(desk)
        for asked in (desk.claim, desk.paper):
            with self.assertRaises(Undefined) as caught:
                asked(value)
            self.assertIs(type(caught.exception), Undefined)
            self.assertEqual(caught.exception.what, "watched")
        self.assertEqual(view(desk), before)

    def test_before_the_first_deed(self):
        desk = Desk(ONE)
        self.assertEqual(desk.report(), ())
        self.not_watched(desk, TEXT)

    def test_those_of_answer_of_and_paper_of(self):
        desk = Desk(four_parts())
        for many, question in enumerate((("text", tuple("abcd")), ("text", tuple("abdc")), ("readings", tuple("aabbccdd")),
                                         LONGEST), 1):
            desk.watch(question)
            self.assertEqual(desk.claim(question), answer_of(desk.pairs, question))
            self.assertTrue(alike(desk.paper(question), paper_of(desk.pairs, question)))
            self.assertEqual(desk.report(), ("kept",) * (many - 1) + ("new",))

    def test_a_reading_that_is_kept(self):
        desk = led(ONE, ("watch", TEXT))
        self.shows(desk, TEXT, ("told", ("a",)), (0,), "new")
        desk.put(2, B)
        self.shows(desk, TEXT, ("told", ("a",)), (0,), "kept")
        desk.put(2, RIGHT_A)
        # paper_of would tell another reading now.
        self.assertEqual(paper_of(desk.pairs, TEXT), (2,))
        self.shows(desk, TEXT, ("told", ("a",)), (0,), "kept")
        desk.turn(0, RIGHT_A)
        self.shows(desk, TEXT, ("told", ("a",)), (0,), "kept")

    def test_a_reading_that_is_renewed(self):
        desk = led(ONE, ("watch", TEXT))
        desk.put(0, B)
        self.shows(desk, TEXT, ("told", ("a",)), (1,), "renewed")
        desk.take(0)
        self.shows(desk, TEXT, ("told", ("a",)), (0,), "renewed")
        desk.undo()
        self.shows(desk, TEXT, ("told", ("a",)), (1,), "renewed")
        desk.undo()
        self.shows(desk, TEXT, ("told", ("a",)), (0,), "renewed")
        desk.redo()
        self.shows(desk, TEXT, ("told", ("a",)), (1,), "renewed")

    def test_what_was_kept_is_not_brought_back(self):
        # Behind undo the paper is looked at, and not that of the time ahead of the deed.
        desk = led(Pairs(1, (A,)), ("watch", TEXT), ("put", 1, A))
        self.shows(desk, TEXT, ("told", ("a",)), (0,), "kept")
        desk.turn(0, B)
        self.shows(desk, TEXT, ("told", ("a",)), (1,), "renewed")
        desk.undo()
        self.shows(desk, TEXT, ("told", ("a",)), (1,), "kept")
        desk.undo()
        self.shows(desk, TEXT, ("told", ("a",)), (0,), "renewed")

    def test_a_text_that_is_changed(self):
        desk = led(ONE, ("watch", TWO))
        bars = desk.paper(TWO)
        self.shows(desk, TWO, ("not told", ("a", "a")), bars, "new")
        desk.put(2, (0, "wrap", 0, 0))
        self.shows(desk, TWO, ("told", ("a", "a")), (2, (0,), (0,)), "changed")
        desk.undo()
        self.shows(desk, TWO, ("not told", ("a", "a")), bars, "changed")
        desk.redo()
        self.shows(desk, TWO, ("told", ("a", "a")), (2, (0,), (0,)), "changed")

    def test_bars_that_are_kept(self):
        # Where less follows than before, what followed are bars still.
        desk = led(Pairs(2, (A, B, (1, "left", "a"))), ("watch", TWO))
        bars = desk.paper(TWO)
        desk.take(2)
        self.assertNotEqual(paper_of(desk.pairs, TWO), bars)
        self.shows(desk, TWO, ("not told", ("a", "a")), bars, "kept")
        desk.undo()
        self.assertEqual(paper_of(desk.pairs, TWO), bars)
        self.shows(desk, TWO, ("not told", ("a", "a")), bars, "kept")
        desk.put(0, (1, "right", "a"))
        self.shows(desk, TWO, ("not told", ("a", "a")), paper_of(desk.pairs, TWO), "renewed")
        self.assertNotEqual(desk.paper(TWO), bars)

    def test_a_number_of_readings(self):
        desk = led(Pairs(2, (A,)), ("watch", MANY))
        tally = desk.paper(MANY)
        self.shows(desk, MANY, ("readings", ("a",), 1), tally, "new")
        desk.put(1, B)
        self.shows(desk, MANY, ("readings", ("a",), 1), tally, "kept")
        desk.put(0, (1, "left", "a"))
        self.shows(desk, MANY, ("readings", ("a",), 1), paper_of(desk.pairs, MANY), "renewed")
        self.assertNotEqual(desk.paper(MANY), tally)
        desk.put(0, A)
        self.shows(desk, MANY, ("readings", ("a",), 2), paper_of(desk.pairs, MANY), "changed")
        desk.take(0)
        self.shows(desk, MANY, ("readings", ("a",), 1), paper_of(desk.pairs, MANY), "changed")

    def test_lengths(self):
        desk = led(Pairs(3, (A, (1, "left", "b"))), ("watch", LONGEST))
        self.shows(desk, LONGEST, ("longest", 1), (1, 1, -1), "new")
        desk.put(0, (1, "right", "a"))
        self.shows(desk, LONGEST, ("longest", 1), (1, 1, -1), "kept")
        desk.put(0, (2, "wrap", 1, 0))
        self.shows(desk, LONGEST, ("longest", 1), (1, 1, 2), "renewed")
        desk.put(0, (0, "behind", 1, 2))
        self.shows(desk, LONGEST, ("any",), paper_of(desk.pairs, LONGEST), "changed")
        desk.turn(1, (2, "wrap", 1, 1))
        self.shows(desk, LONGEST, ("longest", 3), (3, 1, 2), "changed")

    def test_any_and_nothing(self):
        desk = led(Pairs(2, (A, (0, "wrap", 0, 1), (1, "left", "b"))), ("watch", LONGEST))
        self.shows(desk, LONGEST, ("any",), ((1, 0),), "new")
        desk.put(3, (0, "wrap", 1, 0))
        self.shows(desk, LONGEST, ("any",), ((1, 0),), "kept")
        desk.put(0, A)
        self.shows(desk, LONGEST, ("any",), paper_of(desk.pairs, LONGEST), "renewed")
        desk.take(4)
        desk.take(3)
        self.shows(desk, LONGEST, ("longest", 1), (1, -1), "changed")
        desk.turn(0, (0, "wrap", 1, 1))
        self.shows(desk, LONGEST, ("longest", 1), (1, -1), "kept")
        desk.take(1)
        self.shows(desk, LONGEST, ("nothing",), (-1, -1), "changed")
        desk.put(0, (0, "wrap", 0, 0))
        self.shows(desk, LONGEST, ("nothing",), (-1, -1), "kept")
        desk.put(0, (1, "right", "b"))
        self.shows(desk, LONGEST, ("any",), paper_of(desk.pairs, LONGEST), "changed")

    def test_a_question_comes_to_be_watched_again(self):
        # By watch, undo and redo: claim and paper are those of now, not those that were kept before.
        for by in (("watch", TEXT), ("undo",)):
            desk = led(ONE, ("watch", TEXT), ("put", 2, RIGHT_A))
            self.shows(desk, TEXT, ("told", ("a",)), (0,), "kept")
            desk.leave(TEXT)
            self.assertEqual(desk.report(), ())
            self.not_watched(desk, TEXT)
            self.assertIsNone(act(desk, *by))
            self.shows(desk, TEXT, ("told", ("a",)), (2,), "new")
        desk = led(ONE, ("put", 2, RIGHT_A), ("watch", TEXT), ("undo",))
        self.not_watched(desk, TEXT)
        desk.redo()
        self.shows(desk, TEXT, ("told", ("a",)), (2,), "new")

    def test_watch_of_what_is_watched_already(self):
        desk = led(ONE, ("watch", TEXT), ("put", 2, RIGHT_A), ("watch", TEXT))
        self.shows(desk, TEXT, ("told", ("a",)), (0,), "kept")
        desk.watch(rows(TEXT))
        self.shows(desk, TEXT, ("told", ("a",)), (0,), "kept")
        desk.undo()
        self.shows(desk, TEXT, ("told", ("a",)), (0,), "kept")

    def test_report_of_each_in_order(self):
        desk = led(Pairs(2, (A,)), ("watch", LONGEST), ("watch", TEXT), ("watch", MANY))
        self.assertEqual(desk.report(), ("kept", "kept", "new"))
        desk.put(0, B)
        self.assertEqual(desk.report(), ("kept", "renewed", "kept"))
        desk.put(2, A)
        self.assertEqual(desk.report(), ("kept", "kept", "changed"))
        desk.put(0, (1, "left", "b"))
        self.assertEqual(desk.report(), ("renewed", "renewed", "kept"))
        desk.leave(TEXT)
        self.assertEqual(desk.report(), ("kept", "kept"))
        desk.undo()
        self.assertEqual(desk.report(), ("kept", "new", "kept"))
        desk.redo()
        self.assertEqual(desk.report(), ("kept", "kept"))
        desk.leave(LONGEST)
        desk.leave(MANY)
        self.assertEqual(desk.report(), ())

    def test_report_is_of_the_last_deed(self):
        desk = led(ONE, ("watch", TEXT))
        self.assertEqual([desk.report(), desk.report()], [("new",), ("new",)])
        desk.claim(TEXT)
        desk.paper(TEXT)
        self.assertEqual(desk.report(), ("new",))

    def test_what_is_refused_changes_no_claim_paper_or_report(self):
        desk = led(Pairs(1, (A,)), ("watch", TEXT), ("watch", MANY), ("put", 0, B))
        before = view(desk)
        self.assertEqual(desk.report(), ("renewed", "kept"))
        for deed in (("put", 9, A), ("put", True, A), ("put", 0, (0, "same", 0)), ("take", 2), ("turn", 2, A), ("turn", 0, None),
                     ("watch", ("text", ("A",))), ("watch", None), ("leave", LONGEST), ("leave", None), ("redo",)):
            self.assertIsNotNone(act(desk, *deed))
            self.assertEqual(view(desk), before)
        for value in (LONGEST, None, True, ("text", ("b",))):
            self.not_watched(desk, value)
        desk.undo()
        self.assertEqual(desk.report(), ("renewed", "kept"))

    def test_just_left_or_undone(self):
        desk = led(ONE, ("watch", TEXT), ("watch", LONGEST), ("leave", TEXT))
        self.not_watched(desk, TEXT)
        desk.undo()
        self.assertEqual(desk.claim(TEXT), ("told", ("a",)))
        desk.undo()
        self.not_watched(desk, LONGEST)
        desk.undo()
        self.not_watched(desk, TEXT)
        desk.redo()
        self.assertEqual(desk.claim(TEXT), ("told", ("a",)))

    def test_with_a_bool_for_a_number(self):
        desk = led(ONE, ("watch", MANY), ("watch", LONGEST))
        for value in (("readings", ("a",), True), ("longest", True), ("readings", True), (True,), True, (False, ("a",)),
                      ("readings", ("a",), 1), ("longest", 1)):
            self.not_watched(desk, value)

    def test_by_any_question_that_is_equal(self):
        desk = led(ONE, ("watch", TEXT))
        self.assertEqual(desk.claim(rows(TEXT)), ("told", ("a",)))
        self.assertEqual(desk.paper(("text", tuple(["a"]))), (0,))

    def test_deep_papers_are_kept(self):
        long = tuple((kind, "same", kind + 1) for kind in range(39)) + ((39, "left", "a"), (39, "ahead", 0, 0))
        question = ("text", ("a",) * 8)
        desk = led(Pairs(40, long), ("watch", question))
        paper = desk.paper(question)
        desk.turn(40, (39, "behind", 0, 0))
        self.assertEqual(desk.report(), ("kept",))
        self.assertTrue(alike(desk.paper(question), paper))
        desk.turn(39, (39, "left", "b"))
        self.assertEqual(desk.report(), ("changed",))
        desk.undo()
        self.assertEqual(desk.report(), ("changed",))
        self.assertTrue(is_plain(desk.paper(question)))

    def test_drawn_deeds(self):
        told, other = {}, 0
        for seed in range(60):
            chance = chances(seed)
            start = drawn_pairs(seed, 1 + seed % 4, 3 + seed % 9, ("a", "b"))
            desk, slow = Desk(start), SlowDesk(start)
            for _ in range(60):
                deed = drawn_deed(chance, desk.pairs, ASKED[:8 + seed % 3], 10)
                if slow.refuses(*deed) is not None:
                    self.assertIsNotNone(act(desk, *deed))
                    continue
                slow.do(*deed)
                self.assertIsNone(act(desk, *deed))
                self.assertEqual(desk.report(), slow.told)
                for question in desk.watched:
                    self.assertEqual((desk.claim(question), desk.paper(question)), slow.kept[question])
                    self.assertEqual(desk.claim(question), answer_of(desk.pairs, question))
                    self.assertIs(claim_holds(desk.pairs, desk.claim(question), desk.paper(question)), True)
                    other += desk.paper(question) != paper_of(desk.pairs, question)
                for word in desk.report():
                    told[word] = told.get(word, 0) + 1
        self.assertTrue(all(told[word] > 100 for word in ("new", "kept", "renewed", "changed")), told)
        self.assertGreater(other, 50)

    def test_drawn_deeds_by_a_slow_judge(self):
        right = 0
        for seed in range(12):
            chance = chances(seed)
            desk = Desk(drawn_pairs(seed, 1 + seed % 3, 4, ("a", "b")))
            for _ in range(30):
                act(desk, *drawn_deed(chance, desk.pairs, ASKED, 0))
                if len(desk.pairs.rules) > 5:
                    act(desk, "take", 0)
                judge = Judge(desk.pairs, 2)
                for question in desk.watched:
                    claim, paper = desk.claim(question), desk.paper(question)
                    self.assertTrue(judge.holds(claim, paper))
                    if question != LONGEST:
                        self.assertIn(claim, judge.answers(question[1]))
                    right += 1
        self.assertGreater(right, 500)


if __name__ == "__main__":
    unittest.main()
