import unittest

from asking import CLAIMS, NEITHER, NINE, QUESTIONS, rows
from following import are_bars, closed, items_of, wholes
from grammars import EACH_SHAPE, ODD_VALUES, Row, alike, drawn_pairs, is_plain, nested, texts_of
from judging import Judge, changes
from measuring import drawn_lengths
from treestacks.claims import answer_of
from treestacks.errors import InvalidQuestion
from treestacks.items import bars, tally
from treestacks.lengths import four_parts, lengths, loop
from treestacks.pairs import Pairs
from treestacks.papers import claim_holds, paper_of
from treestacks.reading import readings, some_reading

# Two readings of each word, more of more words; kind 0 comes within itself.
MANY = Pairs(2, ((0, "left", "a"), (0, "right", "a"), (0, "ahead", 0, 0), (0, "wrap", 0, 1), (1, "right", "b")))
BOUNDED = Pairs(3, ((0, "wrap", 1, 2), (1, "left", "a"), (2, "right", "b"), (0, "same", 1)))
NOT_LIVE = Pairs(2, ((0, "wrap", 0, 1), (1, "left", "a"), (1, "behind", 1, 1)))


class TestPaperOf(unittest.TestCase):
    """[18] of the document: paper_of, and so (10) of its overview."""

    def holds(self, pairs, question):
        """The claim of question, if its paper holds for it."""
        claim = answer_of(pairs, question)
        paper = paper_of(pairs, question)
        self.assertIs(claim_holds(pairs, claim, paper), True)
        self.assertTrue(is_plain(paper))
        self.assertTrue(alike(paper, paper_of(Pairs(pairs.kinds, tuple(list(pairs.rules))), question)))
        return claim

    def test_each_form(self):
        for pairs, question, claim, paper in (
            (BOUNDED, ("text", ("a", "b")), ("told", ("a", "b")), (0, (1,), (2,))),
            (BOUNDED, ("text", ("b", "a")), ("not told", ("b", "a")), None),
            (BOUNDED, ("readings", ("a", "b")), ("readings", ("a", "b"), 1), tally(BOUNDED, ("a", "b"))),
            (BOUNDED, ("longest",), ("longest", 2), (2, 1, 1)),
            (NOT_LIVE, ("longest",), ("nothing",), (-1, -2)),
            (MANY, ("longest",), ("any",), None),
            (MANY, ("readings", ()), ("readings", (), 0), ()),
        ):
            self.assertEqual(self.holds(pairs, question), claim)
            if paper is not None:
                self.assertEqual(paper_of(pairs, question), paper)

    def test_each_question(self):
        for pairs in (EACH_SHAPE, MANY, BOUNDED, NOT_LIVE, four_parts()):
            for question in QUESTIONS:
                self.holds(pairs, question)

    def test_what_is_no_question(self):
        for value in (*NEITHER, *CLAIMS, ("text", NINE), ("readings", NINE), ("text", ("A",)), ("text", ["a"])):
            with self.assertRaises(InvalidQuestion) as caught:
                paper_of(EACH_SHAPE, value)
            self.assertIs(type(caught.exception), InvalidQuestion)
            self.assertIs(caught.exception.value, value)

    def test_arguments_by_name_and_tuples_of_a_class(self):
        self.assertEqual(paper_of(question=("longest",), pairs=BOUNDED), (2, 1, 1))
        self.assertIs(claim_holds(paper=(2, 1, 1), claim=("longest", 2), pairs=BOUNDED), True)
        for question in QUESTIONS:
            paper = paper_of(MANY, rows(question))
            self.assertEqual(paper, paper_of(MANY, question))
            self.assertTrue(is_plain(paper))
            self.assertIs(claim_holds(MANY, rows(answer_of(MANY, question)), rows(paper)), True)

    def test_drawn_ones(self):
        kinds = {}
        for seed in range(60):
            pairs = drawn_pairs(seed, 1 + seed % 4, 3 + seed % 8, ("a", "b"))
            for text in texts_of(("a", "b", "no"), 3):
                for word in ("text", "readings"):
                    claim = self.holds(pairs, (word, text))
                    kinds[claim[0]] = kinds.get(claim[0], 0) + 1
            for asked in (pairs, drawn_lengths(seed, 1 + seed % 12, 1 + seed * 7 % 30, seed % 5 * 2)):
                claim = self.holds(asked, ("longest",))
                kinds[claim[0]] = kinds.get(claim[0], 0) + 1
        self.assertTrue(all(kinds[word] > 5 for word in ("told", "not told", "readings", "longest", "any", "nothing")), kinds)

    def test_texts_of_8_words(self):
        for text in (tuple("aabbccdd"), tuple("abcdabcd"), ("a",) * 8):
            for word in ("text", "readings"):
                self.holds(four_parts(), (word, text))
                self.holds(MANY, (word, text))

    def test_the_most_kinds_and_rules(self):
        row = tuple((kind, ("same", "first", "last")[kind % 3], kind + 1) for kind in range(39))
        pairs = Pairs(40, (*row, (39, "left", "a"), (39, "ahead", 0, 0), *[(kind, "wrap", 0, 39) for kind in range(40)]))
        for question in (("text", ("a",) * 8), ("readings", ("a",) * 8), ("text", ("b",) * 8), ("longest",)):
            self.holds(pairs, question)
        pairs = Pairs(40, (*row, (39, "left", "a"), (39, "ahead", 0, 0)))
        paper = paper_of(pairs, ("text", ("a",) * 8))
        # Each of the 15 rules that are no steps of kinds has 39 steps above it.
        many, waiting = 0, [paper]
        while waiting:
            many += 1
            waiting += waiting.pop()[1:]
        self.assertEqual(many, 600)
        self.holds(pairs, ("text", ("a",) * 8))


class TestClaimHolds(unittest.TestCase):
    """[18] of the document: claim_holds, and so (10) of its overview."""

    def says(self, due, pairs, claim, paper):
        self.assertIs(claim_holds(pairs, claim, paper), due, (claim, paper))

    def test_just_one_claim_that_may_answer(self):
        for pairs in (MANY, BOUNDED, NOT_LIVE, EACH_SHAPE, four_parts()):
            papers = [paper_of(pairs, question) for question in QUESTIONS]
            for text in ((), ("a",), ("a", "b"), ("a", "b", "a"), tuple("abcd")):
                told = answer_of(pairs, ("text", text))
                other = ("not told" if told[0] == "told" else "told", text)
                many = answer_of(pairs, ("readings", text))[2]
                papers += [paper_of(pairs, ("text", text)), paper_of(pairs, ("readings", text))]
                for paper in papers:
                    self.says(False, pairs, other, paper)
                    for number in (0, 1, 2, many + 1, many - 1, many * 2):
                        if number != many:
                            self.says(False, pairs, ("readings", text, number), paper)
            true = answer_of(pairs, ("longest",))
            for claim in (("any",), ("nothing",), *[("longest", many) for many in range(6)]):
                if claim != true:
                    for paper in papers:
                        self.says(False, pairs, claim, paper)

    def test_other_readings(self):
        for text in (("a",), ("a", "a"), ("a", "a", "b")):
            told = readings(MANY, text)
            self.assertGreater(len(told), 1)
            for reading in told:
                self.says(True, MANY, ("told", text), reading)
                for other in (("a",), ("a", "a"), ("a", "a", "b"), ("b",), (), ("a", "b"), ("b", "a")):
                    self.says(reading in readings(MANY, other), MANY, ("told", other), reading)
                self.says(False, MANY, ("not told", text), reading)
                self.says(False, MANY, ("readings", text, len(told)), reading)

    def test_readings_of_other_kinds(self):
        self.says(False, MANY, ("told", ("b",)), (4,))
        self.says(False, BOUNDED, ("told", ("a",)), (1,))
        self.says(True, BOUNDED, ("told", ("a",)), (3, (1,)))
        self.says(False, BOUNDED, ("told", ("b",)), (2,))

    def test_readings_in_which_the_gap_is_elsewhere(self):
        pairs = Pairs(2, ((0, "left", "a"), (0, "right", "a"), (0, "first", 1), (0, "last", 1), (1, "left", "a")))
        for reading in ((0,), (1,), (2, (4,)), (3, (4,))):
            self.says(True, pairs, ("told", ("a",)), reading)

    def test_all_items_that_follow_and_more_of_them(self):
        text = ("b", "a")
        self.assertEqual(answer_of(BOUNDED, ("text", text)), ("not told", text))
        least = closed(BOUNDED, text, ())
        self.says(True, BOUNDED, ("not told", text), least)
        found = {least}
        for item in items_of(3, 2):
            more = closed(BOUNDED, text, (*least, item))
            holds = not wholes(2) & set(more)
            self.assertEqual(are_bars(BOUNDED, text, more), holds)
            self.says(holds, BOUNDED, ("not told", text), more)
            if holds:
                found.add(more)
        self.assertGreater(len(found), 3)

    def test_bars_that_are_none(self):
        text = ("b", "a")
        paper = paper_of(BOUNDED, ("text", text))
        for wrong in (paper[::-1], paper + paper, paper[:-1], paper[1:], (), paper + ((0, 0, 0, 0, 2),), list(paper),
                      tuple(sorted({*paper, (0, 0, 1, 1, 2)}))):
            self.says(False, BOUNDED, ("not told", text), wrong)
        self.says(False, BOUNDED, ("told", text), paper)
        self.says(False, BOUNDED, ("not told", ("a", "b")), paper)

    def test_other_loops(self):
        one = loop(MANY)
        for paper in (one, one * 2, ((2, 0),), ((2, 1),), ((2, 0), (2, 1)), ((3, 0),), ((3, 0), (2, 1)), ((2, 1),) * 90):
            self.says(True, MANY, ("any",), paper)
            self.says(False, MANY, ("nothing",), paper)
            self.says(False, MANY, ("longest", 2), paper)
        for paper in ((), ((3, 1),), ((0, 0),), ((2, 1),) * 91, one[0], (one,), lengths(MANY), [*one], ((2, True),)):
            self.says(False, MANY, ("any",), paper)

    def test_lengths_of_others(self):
        for paper in ((2, 1, 1), (2, 1), (2, 1, 1, 1), (1, 1, 1), (2, 1, 2), [2, 1, 1], (2, True, 1), (2, 1, True), (-2, -2)):
            self.says(paper == (2, 1, 1) and is_plain(paper), BOUNDED, ("longest", 2), paper)
            self.says(False, BOUNDED, ("longest", 1), paper)
            self.says(False, BOUNDED, ("any",), paper)
            self.says(False, BOUNDED, ("nothing",), paper)
            self.says(False, MANY, ("longest", 2), paper)
            self.says(False, NOT_LIVE, ("nothing",), paper)
        self.says(True, NOT_LIVE, ("nothing",), (-1, -2))
        self.says(False, NOT_LIVE, ("any",), ((2, 0),))
        self.says(False, NOT_LIVE, ("longest", 0), (-1, -2))
        one = Pairs(1, ((0, "left", "a"),))
        self.says(True, one, ("longest", 1), (1,))
        self.says(False, one, ("longest", 1), (True,))
        self.says(False, one, ("longest", True), (1,))

    def test_a_loop_where_kind_0_is_not_live(self):
        # Kind 1 comes within itself, but is not in use; so there is no loop at all.
        self.assertEqual(lengths(NOT_LIVE), (-1, -2))
        for paper in (((2, 0),), ((2, 1),), ((0, 0),), ()):
            self.says(False, NOT_LIVE, ("any",), paper)

    def test_tallies_of_others(self):
        text = ("a", "a")
        due = tally(MANY, text)
        many = len(readings(MANY, text))
        self.says(True, MANY, ("readings", text, many), due)
        for wrong in (due[:-1], due[1:], due[::-1], due + due, (), tally(MANY, ("a",)), tally(BOUNDED, text), list(due),
                      tuple(item for item, _ in due), tuple((item, number + 1) for item, number in due),
                      due[:-1] + ((due[-1][0], due[-1][1] + 1),)):
            self.says(False, MANY, ("readings", text, many), wrong)
        one = Pairs(1, ((0, "left", "a"),))
        told = tally(one, ("a",))
        self.assertEqual({number for _, number in told}, {1})
        self.says(True, one, ("readings", ("a",), 1), told)
        self.says(False, one, ("readings", ("a",), True), told)
        self.says(False, one, ("readings", ("a",), 1), tuple((item, True) for item, _ in told))
        self.says(False, one, ("readings", ("a",), 1), tuple(((False, *item[1:]), number) for item, number in told))
        self.says(True, one, ("readings", ("b",), 0), ())
        self.says(False, one, ("readings", ("b",), False), ())

    def test_changed_at_one_place(self):
        right = wrong = 0
        for pairs in (MANY, BOUNDED, NOT_LIVE):
            judge = Judge(pairs, 3)
            for text in ((), ("a",), ("a", "b"), ("b", "a"), ("a", "a", "b")):
                for claim in judge.answers(text) + [answer_of(pairs, ("longest",))]:
                    question = ("longest",) if len(claim) < 2 or claim[0] == "longest" else (
                        "readings" if claim[0] == "readings" else "text", text)
                    paper = paper_of(pairs, question)
                    self.says(True, pairs, claim, paper)
                    for changed in changes(paper):
                        due = judge.holds(claim, changed)
                        self.says(due, pairs, claim, changed)
                        right += due
                        wrong += not due
        self.assertGreater(right, 5, right)
        self.assertGreater(wrong, 2000)

    def test_drawn_papers(self):
        right = wrong = 0
        for seed in range(40):
            pairs = drawn_pairs(seed, 1 + seed % 3, 3 + seed % 5, ("a", "b"))
            judge = Judge(pairs, 3)
            texts = [(), ("a",), ("b", "a"), ("a", "b", "a"), ("b", "b")]
            claims = [claim for text in texts for claim in judge.answers(text)]
            papers = [judge.tally(text) for text in texts] + [closed(pairs, text, ()) for text in texts]
            papers += [reading for text in texts for reading in judge.readings(text)[:3]]
            papers += [judge.lengths] + [((number, 0),) for number in range(len(pairs.rules))]
            claims += [("any",), ("nothing",), ("longest", 1), ("longest", 2), ("longest", 3)]
            claims += [("told", text) for text in texts] + [("not told", text) for text in texts]
            for claim in claims:
                for paper in papers:
                    due = judge.holds(claim, paper)
                    self.says(due, pairs, claim, paper)
                    right += due
                    wrong += not due
        self.assertGreater(right, 400)
        self.assertGreater(wrong, 5000)

    def test_what_is_no_claim_holds_with_none(self):
        papers = [paper_of(MANY, question) for question in QUESTIONS] + [(), None, True, (0,), 0]
        for value in (*NEITHER, *QUESTIONS, ("told", NINE), ("readings", ("a",), -1), ("longest", -2), ("longest", -1),
                      ("longest", None), ("readings", ["a"], 2), ["told", ("a",)], ("told", ["a"]), ["any"]):
            for paper in papers:
                self.says(False, MANY, value, paper)
                self.says(False, NOT_LIVE, value, lengths(NOT_LIVE))

    def test_any_paper(self):
        for question in QUESTIONS + (("text", ("a", "b")), ("readings", ("a", "b"))):
            for pairs in (MANY, BOUNDED, NOT_LIVE):
                claim = answer_of(pairs, question)
                right = paper_of(pairs, question)
                for value in (*ODD_VALUES, nested(5000), (nested(5000),), pairs, (pairs,)):
                    # Bars for the text of no words, and what its tally tells, are ().
                    self.says(value == () and right == () and type(value) is tuple, pairs, claim, value)
                    self.says(False, pairs, claim, (value, right))

    def test_any_claim_with_any_paper(self):
        for value in ODD_VALUES:
            for other in ODD_VALUES[::3]:
                self.says(False, MANY, value, other)
                self.says(False, MANY, (value, other), value)

    def test_papers_of_the_package_cut_off_or_lengthened(self):
        row = tuple((kind, "same", kind + 1) for kind in range(39)) + ((39, "left", "a"), (39, "ahead", 0, 0))
        pairs = Pairs(40, row)
        claim = ("told", ("a",) * 8)
        paper = some_reading(pairs, ("a",) * 8)
        self.says(True, pairs, claim, paper)
        for wrong in (paper[1], (paper,), (0, paper), (0, (0, paper)), (40, paper, paper), paper + paper, paper[:1]):
            self.says(False, pairs, claim, wrong)
        large = Pairs(40, tuple((kind, "left", "a") for kind in range(40)) + tuple(
            (kind, "wrap", kind, (kind + 1) % 40) for kind in range(40)))
        text = ("a",) * 8
        for word in ("text", "readings"):
            claim, paper = answer_of(large, (word, text)), paper_of(large, (word, text))
            self.says(True, large, claim, paper)
            self.says(False, large, claim, paper + ((),))
            self.says(False, large, claim, paper[:-1])
        text = ("a",) * 7 + ("b",)
        paper = bars(large, text)
        self.assertGreater(len(paper), 1000)
        self.says(True, large, ("not told", text), paper)
        self.says(False, large, ("not told", text), paper[:-1])
        self.says(False, large, ("not told", text), paper + paper[:1])

    def test_two_grammars_by_turns(self):
        for _ in range(2):
            for pairs in (MANY, BOUNDED, NOT_LIVE):
                for question in QUESTIONS:
                    self.says(True, pairs, answer_of(pairs, question), paper_of(pairs, question))
                self.says(pairs is MANY, pairs, ("any",), ((2, 1),))

    def test_arguments_do_not_change(self):
        claim, paper = ["told", ["a"]], [[0]]
        self.says(False, MANY, claim, paper)
        self.assertEqual((claim, paper), (["told", ["a"]], [[0]]))
        self.says(True, MANY, Row(("told", Row(("a",)))), Row((0,)))


if __name__ == "__main__":
    unittest.main()
