import unittest

from asking import CLAIMS, NEITHER, NINE, NUMBERS, QUESTIONS, RIGHT_TEXTS, WRONG_NUMBERS, rows
from grammars import EACH_SHAPE, ODD_VALUES, WRONG_TEXTS, all_of_kinds, drawn_pairs, is_plain, nested, texts_of
from measuring import drawn_lengths, slow_lengths
from treestacks.claims import answer_of, is_claim, is_question, question_of
from treestacks.errors import InvalidClaim, InvalidQuestion
from treestacks.lengths import four_parts
from treestacks.pairs import Pairs

OTHER = Pairs(1, ((0, "wrap", 0, 0),))


class TestQuestionsAndClaims(unittest.TestCase):
    """[17] of the document: is_question and is_claim."""

    def both(self, value, question, claim):
        for pairs in (EACH_SHAPE, OTHER, four_parts()):
            self.assertIs(is_question(pairs, value), question, value)
            self.assertIs(is_claim(pairs, value), claim, value)

    def test_questions(self):
        for question in QUESTIONS:
            self.both(question, True, False)

    def test_claims(self):
        for claim in CLAIMS:
            self.both(claim, False, True)

    def test_neither(self):
        for value in NEITHER:
            self.both(value, False, False)

    def test_texts(self):
        for text in (*WRONG_TEXTS, NINE, ("a",) * 30000, [], ["a"]):
            if text != ():
                for value in (("text", text), ("readings", text), ("told", text), ("not told", text),
                              ("readings", text, 0), ("readings", text, 1)):
                    self.both(value, False, False)

    def test_numbers(self):
        for wrong in WRONG_NUMBERS:
            self.both(("longest", wrong), False, False)
            self.both(("readings", ("a",), wrong), False, False)
            self.both(("readings", wrong, wrong), False, False)

    def test_any_value_at_each_place(self):
        for value in ODD_VALUES:
            is_number = type(value) is int and value >= 0
            self.both((value,), False, False)
            self.both((value, ("a",)), False, False)
            self.both(("longest", value), False, is_number)
            self.both(("readings", ("a",), value), False, is_number)
            self.both(("any", value), False, False)
            self.both(("text", ("a",), value), False, False)
            self.both(("text", (value,)), value == "a", False)

    def test_lists(self):
        for value in (*QUESTIONS, *CLAIMS):
            self.both(list(value), False, False)
            if len(value) > 1 and isinstance(value[1], tuple):
                self.both((value[0], list(value[1]), *value[2:]), False, False)

    def test_too_short_and_too_long(self):
        for value in (*QUESTIONS, *CLAIMS):
            for wrong in (value + ((),), value + (None,), (value,), value[1:], value + value, value[::-1]):
                if wrong not in QUESTIONS and wrong not in CLAIMS and wrong != value:
                    self.both(wrong, False, False)
        self.both(("readings", ("a",), 1)[:2], True, False)
        self.both(("longest", 1)[:1], True, False)

    def test_tuples_of_a_class(self):
        for question in QUESTIONS:
            self.both(rows(question), True, False)
        for claim in CLAIMS:
            self.both(rows(claim), False, True)

    def test_deep_values(self):
        deep = nested(5000)
        for value in (deep, (deep,), ("text", deep), ("readings", deep), ("longest", deep), ("readings", ("a",), deep),
                      (deep, ("a",)), ("told", deep), ("text", (deep,))):
            self.both(value, False, False)

    def test_arguments_by_name(self):
        self.assertIs(is_question(value=("longest",), pairs=OTHER), True)
        self.assertIs(is_claim(value=("any",), pairs=OTHER), True)


class TestAnswers(unittest.TestCase):
    """[17] of the document: answer_of and question_of, and so (8) and (10) of its overview."""

    def no_question(self, value):
        with self.assertRaises(InvalidQuestion) as caught:
            answer_of(EACH_SHAPE, value)
        self.assertIs(type(caught.exception), InvalidQuestion)
        self.assertIs(caught.exception.value, value)

    def no_claim(self, value):
        with self.assertRaises(InvalidClaim) as caught:
            question_of(EACH_SHAPE, value)
        self.assertIs(type(caught.exception), InvalidClaim)
        self.assertIs(caught.exception.value, value)

    def answers(self, pairs, question, due):
        told = answer_of(pairs, question)
        self.assertEqual(told, due)
        self.assertTrue(is_plain(told))
        self.assertIs(is_claim(pairs, told), True)
        self.assertEqual(question_of(pairs, told), question)
        self.assertTrue(is_plain(question_of(pairs, told)))

    def test_told_ones(self):
        pairs = Pairs(1, ((0, "left", "a"), (0, "right", "a"), (0, "ahead", 0, 0)))
        self.answers(pairs, ("text", ("a",)), ("told", ("a",)))
        self.answers(pairs, ("text", ("b",)), ("not told", ("b",)))
        self.answers(pairs, ("text", ()), ("not told", ()))
        self.answers(pairs, ("text", ("a",) * 8), ("told", ("a",) * 8))
        self.answers(pairs, ("readings", ("a",)), ("readings", ("a",), 2))
        self.answers(pairs, ("readings", ("b",)), ("readings", ("b",), 0))
        self.answers(pairs, ("readings", ()), ("readings", (), 0))
        self.answers(pairs, ("readings", ("a",) * 2), ("readings", ("a",) * 2, 4))
        self.answers(pairs, ("readings", ("a",) * 8), ("readings", ("a",) * 8, 429 * 2 ** 8))
        self.answers(pairs, ("longest",), ("any",))
        self.answers(Pairs(1, pairs.rules[:2]), ("longest",), ("longest", 1))
        self.answers(Pairs(1, pairs.rules[2:]), ("longest",), ("nothing",))
        self.answers(four_parts(), ("readings", tuple("aabbccdd")), ("readings", tuple("aabbccdd"), 1))

    def test_large_numbers(self):
        pairs = Pairs(1, ((0, "left", "a"),) * 40 + ((0, "behind", 0, 0),) * 50)
        self.answers(pairs, ("readings", ("a",) * 8), ("readings", ("a",) * 8, 429 * 40 ** 8 * 50 ** 7))
        row = tuple((kind, "wrap", kind + 1, kind + 1) for kind in range(39)) + ((39, "left", "a"),)
        self.answers(Pairs(40, row), ("longest",), ("longest", 2 ** 39))

    def test_by_a_slow_count(self):
        told = {}
        for seed in range(80):
            pairs = drawn_pairs(seed, 1 + seed % 4, 3 + seed % 6, ("a", "b"))
            due = {}
            for _, (first, second) in all_of_kinds(pairs, 3)[0]:
                due[first + second] = due.get(first + second, 0) + 1
            for text in texts_of(("a", "b", "no"), 3):
                many = due.get(text, 0)
                self.answers(pairs, ("readings", text), ("readings", text, many))
                self.answers(pairs, ("text", text), ("told" if many else "not told", text))
                told[min(many, 3)] = told.get(min(many, 3), 0) + 1
        self.assertTrue(all(told[many] > 50 for many in range(4)), told)

    def test_lengths_by_a_slow_count(self):
        for seed in range(120):
            pairs = drawn_lengths(seed, 1 + seed % 12, 1 + seed * 7 % 30, seed % 5 * 2)
            told = slow_lengths(pairs)[0]
            due = {-1: ("nothing",), -2: ("any",)}.get(told, ("longest", told))
            self.answers(pairs, ("longest",), due)

    def test_what_is_no_question(self):
        for value in (*NEITHER, *CLAIMS, ("text", NINE), ("readings", NINE), ("text", ("A",)), ("text", ["a"])):
            self.no_question(value)

    def test_what_is_no_claim(self):
        for value in (*NEITHER, *QUESTIONS, ("told", NINE), ("readings", NINE, 1), ("readings", ("a",), -1), ("longest", -2),
                      ("longest", True), ("readings", ("a",), False), ("longest", None), ("readings", ["a"], 1)):
            self.no_claim(value)

    def test_back_to_the_question(self):
        for pairs in (EACH_SHAPE, OTHER):
            for text in RIGHT_TEXTS:
                for claim in (("told", text), ("not told", text)):
                    self.assertEqual(question_of(pairs, claim), ("text", text))
                for many in NUMBERS:
                    self.assertEqual(question_of(pairs, ("readings", text, many)), ("readings", text))
            for claim in (("any",), ("nothing",), *[("longest", many) for many in NUMBERS]):
                self.assertEqual(question_of(pairs, claim), ("longest",))

    def test_tuples_of_a_class(self):
        for question in QUESTIONS:
            self.assertTrue(is_plain(answer_of(EACH_SHAPE, rows(question))))
            self.assertEqual(answer_of(EACH_SHAPE, rows(question)), answer_of(EACH_SHAPE, question))
        for claim in CLAIMS:
            self.assertTrue(is_plain(question_of(EACH_SHAPE, rows(claim))))
            self.assertEqual(question_of(EACH_SHAPE, rows(claim)), question_of(EACH_SHAPE, claim))

    def test_arguments_by_name(self):
        self.assertEqual(answer_of(question=("longest",), pairs=OTHER), ("nothing",))
        self.assertEqual(question_of(claim=("any",), pairs=OTHER), ("longest",))


if __name__ == "__main__":
    unittest.main()
