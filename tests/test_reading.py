import itertools
import unittest

from grammars import (
    AB, EACH_SHAPE, SHAPES, WRONG_TEXTS, Row, all_of_kinds, drawn_pairs, has_reading, is_plain, texts_of,
)
from treestacks.errors import InvalidText, Undefined
from treestacks.pairs import Pairs, kind_of, pair_of, text_of
from treestacks.reading import readings, some_reading

FOUR_PARTS = Pairs(8, (
    (0, "wrap", 1, 2), (0, "wrap", 3, 2), (1, "wrap", 3, 0), (2, "wrap", 4, 5), (3, "wrap", 6, 7),
    (4, "left", "b"), (5, "right", "c"), (6, "left", "a"), (7, "right", "d"),
))

# A rule for each shape, the word by both sides: the richest grammars of 6 rules.
RICH = (
    Pairs(2, ((0, "same", 1),) * 4 + ((1, "left", "a"), (1, "wrap", 0, 0))),
    Pairs(2, ((0, "same", 1), (0, "first", 1), (0, "last", 1), (1, "left", "a"), (1, "wrap", 0, 0),
              (1, "ahead", 0, 0))),
    Pairs(3, ((0, "first", 2), (1, "last", 0), (2, "behind", 0, 1), (2, "ahead", 1, 0), (2, "left", "a"),
              (2, "right", "a"))),
    Pairs(1, ((0, "left", "a"), (0, "right", "a"), (0, "right", "b"), (0, "wrap", 0, 0), (0, "ahead", 0, 0),
              (0, "behind", 0, 0))),
)


class TestAllReadings(unittest.TestCase):
    """[6] of the document: readings, and so (1) of its overview."""

    def agrees(self, pairs, words):
        """Whether all texts have just those readings that the slow way tells, in order."""
        known = all_of_kinds(pairs, 3)[0]
        for text in texts_of(words, 3):
            due = sorted(reading for reading, (first, second) in known if first + second == text)
            told = readings(pairs, text)
            self.assertEqual(told, tuple(due))
            self.assertTrue(is_plain(told))

    def test_one_shape_alone(self):
        for shape in SHAPES[:2]:
            pairs = Pairs(1, ((0, shape, "a"),))
            self.assertEqual(readings(pairs, ("a",)), ((0,),))
            for text in ((), ("b",), ("a", "a"), ("a", "a", "a")):
                self.assertEqual(readings(pairs, text), ())

    def test_each_shape_of_one_part(self):
        for shape in SHAPES[2:5]:
            pairs = Pairs(2, ((0, shape, 1), (1, "right", "abc")))
            self.assertEqual(readings(pairs, ("abc",)), ((0, (1,)),))

    def test_each_shape_of_two_parts(self):
        due = {
            "wrap": {("left", "left"): "ac", ("left", "right"): "ac", ("right", "left"): "ca", ("right", "right"): "ca"},
            "ahead": {sides: "ca" for sides in itertools.product(("left", "right"), repeat=2)},
            "behind": {sides: "ac" for sides in itertools.product(("left", "right"), repeat=2)},
        }
        for shape in SHAPES[5:]:
            for sides, text in due[shape].items():
                pairs = Pairs(3, ((0, shape, 1, 2), (1, sides[0], "a"), (2, sides[1], "c")))
                self.assertEqual(readings(pairs, tuple(text)), ((0, (1,), (2,)),))
                self.assertEqual(readings(pairs, tuple(text[::-1])), ())

    def test_only_kind_0(self):
        pairs = Pairs(2, ((1, "left", "a"), (0, "left", "b")))
        self.assertEqual(readings(pairs, ("a",)), ())
        self.assertEqual(readings(pairs, ("b",)), ((1,),))

    def test_equal_rules_give_readings_of_their_own(self):
        pairs = Pairs(2, ((1, "left", "a"), (0, "same", 1), (0, "same", 1), (1, "left", "a")))
        self.assertEqual(readings(pairs, ("a",)), ((1, (0,)), (1, (3,)), (2, (0,)), (2, (3,))))

    def test_readings_that_share_a_text_but_no_pair(self):
        pairs = Pairs(1, ((0, "right", "a"), (0, "left", "a")))
        self.assertEqual(readings(pairs, ("a",)), ((0,), (1,)))

    def test_the_richest(self):
        self.assertEqual(len(readings(RICH[0], ("a",) * 3)), 2048)
        for pairs in RICH:
            self.agrees(pairs, ("a", "b"))

    def test_drawn_ones(self):
        for seed in range(300):
            self.agrees(drawn_pairs(seed, 1 + seed // 4 % 4, 3 + seed % 4, ("a", "bc")), ("a", "bc"))

    def test_ascending_each_once(self):
        for pairs in RICH:
            for text in texts_of(("a", "b"), 3):
                told = readings(pairs, text)
                self.assertTrue(all(one < other for one, other in zip(told, told[1:])))

    def test_no_reading_of_no_words(self):
        for pairs in RICH:
            self.assertEqual(readings(pairs, ()), ())

    def test_kinds_out_of_their_order(self):
        pairs = Pairs(40, ((0, "same", 39), (39, "first", 20), (20, "last", 30), (30, "wrap", 5, 5), (5, "left", "a")))
        self.assertEqual(readings(pairs, ("a", "a")), ((0, (1, (2, (3, (4,), (4,))))),))

    def test_arguments_by_name_and_tuples_of_a_class(self):
        pairs = Pairs(1, ((0, "left", "a"),))
        self.assertEqual(readings(text=("a",), pairs=pairs), ((0,),))
        self.assertTrue(is_plain(readings(pairs, Row(["a"]))))
        self.assertEqual(readings(pairs, Row(["a"])), ((0,),))

    def test_unless_it_is_a_text_of_at_most_3_words(self):
        small = Pairs(1, ((0, "left", "a"), (0, "wrap", 0, 0)))
        large = Pairs(1, ((0, "left", "a"),) * 7)
        for pairs in (small, large):
            for text in (*WRONG_TEXTS, ("a",) * 4, ("a",) * 8, ("a",) * 9):
                with self.assertRaises(InvalidText) as caught:
                    readings(pairs, text)
                self.assertIs(caught.exception.value, text)

    def test_more_than_6_rules(self):
        for many in (7, 8, 90):
            for text in ((), ("a",), ("b", "a", "a")):
                with self.assertRaises(Undefined) as caught:
                    readings(Pairs(1, ((0, "left", "a"),) * many), text)
                self.assertEqual(caught.exception.what, "size")
        for many in (1, 5, 6):
            told = readings(Pairs(40, ((0, "left", "a"),) * many), ("a",))
            self.assertEqual(told, tuple((number,) for number in range(many)))

    def test_equal_calls_return_equal_results(self):
        for pairs in RICH:
            again = Pairs(pairs.kinds, tuple(list(pairs.rules)))
            self.assertEqual(readings(pairs, ("a", "a")), readings(again, ("a", "a")))


class TestSomeReading(unittest.TestCase):
    """[6] of the document: some_reading."""

    def told(self, pairs, text):
        reading = some_reading(pairs, text)
        self.assertEqual(text_of(pairs, reading), text)
        self.assertEqual(kind_of(pairs, reading), 0)
        self.assertTrue(is_plain(reading))
        self.assertEqual(reading, some_reading(pairs, text))
        return reading

    def none(self, pairs, text):
        with self.assertRaises(Undefined) as caught:
            some_reading(pairs, text)
        self.assertEqual(caught.exception.what, "reading")

    def agrees(self, pairs, text):
        """Whether there is some reading exactly if the slow way tells one."""
        if has_reading(pairs, text):
            self.told(pairs, text)
        else:
            self.none(pairs, text)

    def test_only_one(self):
        self.assertEqual(self.told(EACH_SHAPE, ("a", "b")), AB)
        self.assertEqual(self.told(FOUR_PARTS, ("a", "b", "c", "d")), (1, (4, (7,), (8,)), (3, (5,), (6,))))

    def test_texts_of_four_parts(self):
        for many in (1, 2):
            self.told(FOUR_PARTS, tuple("a" * many + "b" * many + "c" * many + "d" * many))
        for text in ("", "a", "abc", "abcde", "aabbccd", "aabbcddd", "abcdabcd", "aabcdbcd", "dcba", "abbccd"):
            self.none(FOUR_PARTS, tuple(text))

    def test_each_shape_of_a_reading_of_kind_0(self):
        for side in SHAPES[:2]:
            self.assertEqual(self.told(Pairs(1, ((0, side, "a"),)), ("a",)), (0,))
        below = (
            (1, "wrap", 3, 4), (2, "wrap", 5, 6),
            (3, "left", "a"), (4, "right", "b"), (5, "left", "c"), (6, "right", "d"),
        )
        one, other = (1, (3,), (4,)), (2, (5,), (6,))
        for shape in SHAPES[2:5]:
            pairs = Pairs(7, ((0, shape, 1),) + below)
            self.assertEqual(self.told(pairs, ("a", "b")), (0, one))
        for shape, text in (("wrap", "acdb"), ("ahead", "cdab"), ("behind", "abcd")):
            pairs = Pairs(7, ((0, shape, 1, 2),) + below)
            self.assertEqual(self.told(pairs, tuple(text)), (0, one, other))
            for row in itertools.permutations("abcd"):
                if "".join(row) != text:
                    self.none(pairs, row)

    def test_some_exactly_if_there_is_one(self):
        for seed in range(250):
            pairs = drawn_pairs(seed, 1 + seed % 5, 3 + seed % 9, ("a", "b"))
            for text in texts_of(("a", "b"), 4):
                self.agrees(pairs, text)

    def test_some_of_longer_texts(self):
        for seed in range(80):
            pairs = drawn_pairs(seed, 4 + seed % 5, 14 + seed % 5, ("a", "b", "c"))
            for text in (("a", "b", "c") * 2, ("a", "b", "a", "b", "c", "c", "a"), tuple("aabbccab")):
                self.agrees(pairs, text)

    def test_no_reading(self):
        pairs = Pairs(2, ((0, "left", "a"), (1, "left", "b"), (0, "wrap", 0, 0)))
        for text in ((), ("b",), ("a", "b"), ("a",) * 7 + ("b",), ("c",) * 8):
            self.none(pairs, text)

    def test_texts_of_8_words(self):
        for shape in ("wrap", "ahead", "behind"):
            for side in ("left", "right"):
                pairs = Pairs(1, ((0, shape, 0, 0), (0, side, "a"), (0, side, "zzz")))
                self.told(pairs, ("a", "zzz", "a", "a", "zzz", "zzz", "zzz", "a"))

    def test_the_most_rules_that_a_reading_may_need(self):
        rules = tuple((kind, "same", kind + 1) for kind in range(39)) + ((39, "left", "a"), (39, "wrap", 0, 0))
        reading = self.told(Pairs(40, rules), ("a",) * 8)
        self.assertEqual(pair_of(Pairs(40, rules), reading), (("a",) * 8, ()))

    def test_the_most_kinds_and_rules(self):
        words = ("a", "b", "c", "d", "e", "f", "g", "h")
        leaves = tuple((32 + at, "left", word) for at, word in enumerate(words))
        chain = tuple((kind, "behind", 32 + kind, kind + 1) for kind in range(7)) + ((7, "same", 39),)
        shapes = ("wrap", "ahead", "behind")
        others = tuple((at % 40, shapes[at % 3], at * 7 % 40, at * 11 % 40) for at in range(74))
        pairs = Pairs(40, others + chain + leaves)
        self.told(pairs, words)
        self.agrees(pairs, words[::-1])
        self.agrees(Pairs(40, others + chain[1:] + leaves), words)
        self.none(Pairs(40, others + chain + leaves[1:]), words)

    def test_unless_it_is_a_text(self):
        pairs = Pairs(1, ((0, "left", "a"), (0, "wrap", 0, 0)))
        for text in (*WRONG_TEXTS, ("a",) * 9, ("a",) * 30000):
            with self.assertRaises(InvalidText) as caught:
                some_reading(pairs, text)
            self.assertIs(caught.exception.value, text)

    def test_arguments_by_name_and_tuples_of_a_class(self):
        pairs = Pairs(1, ((0, "left", "a"), (0, "wrap", 0, 0)))
        self.assertEqual(some_reading(text=("a",), pairs=pairs), (0,))
        self.assertTrue(is_plain(some_reading(pairs, Row(["a", "a"]))))

    def test_it_is_one_of_all(self):
        for seed in range(60):
            pairs = drawn_pairs(seed, 2, 6, ("a", "b"))
            for text in texts_of(("a", "b"), 3):
                told = readings(pairs, text)
                if told == ():
                    self.none(pairs, text)
                else:
                    self.assertIn(self.told(pairs, text), told)


if __name__ == "__main__":
    unittest.main()
