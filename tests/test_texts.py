import itertools
import unittest

from grammars import EACH_SHAPE, ODD_VALUES, all_of_kinds, drawn_pairs, has_reading, is_plain
from measuring import slow_texts
from treestacks.errors import InvalidNumber, Undefined
from treestacks.lengths import four_parts, lengths, texts
from treestacks.pairs import Pairs, text_of
from treestacks.reading import some_reading

# As much as 9 rules can tell: 8 words and one rule that puts them together; fewer words and more rules.
RICH = (
    Pairs(1, tuple((0, ("left", "right")[at % 2], "a" * (at % 3 + 1)) for at in range(8)) + ((0, "wrap", 0, 0),)),
    Pairs(1, tuple((0, "left", one) for one in "abcdefgh") + ((0, "behind", 0, 0),)),
    Pairs(1, tuple((0, "left", one) for one in "abc") + tuple((0, "right", one) for one in "def")
          + ((0, "wrap", 0, 0), (0, "ahead", 0, 0), (0, "behind", 0, 0))),
    Pairs(3, ((0, "first", 1), (0, "last", 2), (1, "left", "a"), (1, "wrap", 1, 0), (2, "same", 1), (2, "right", "b"),
              (2, "ahead", 0, 2), (1, "behind", 2, 1), (0, "wrap", 2, 1))),
)


class TestTexts(unittest.TestCase):
    """[16] of the document, and so (8) and (9) of its overview; with [1] and [2]."""

    def agrees(self, pairs, many):
        """How many texts there are, if they are just those with a reading."""
        told = texts(pairs, many)
        self.assertEqual(told, slow_texts(pairs, many))
        self.assertEqual(told, tuple(sorted(set(told))))
        self.assertTrue(is_plain(told))
        for text in told:
            self.assertEqual(len(text), many)
            self.assertEqual(text_of(pairs, some_reading(pairs, text)), text)
        return len(told)

    def test_told_ones(self):
        pairs = Pairs(1, ((0, "left", "b"), (0, "left", "a"), (0, "behind", 0, 0)))
        self.assertEqual(texts(pairs, 0), ())
        self.assertEqual(texts(pairs, 1), (("a",), ("b",)))
        self.assertEqual(texts(pairs, 2), (("a", "a"), ("a", "b"), ("b", "a"), ("b", "b")))
        self.assertEqual([self.agrees(pairs, many) for many in range(5)], [0, 2, 4, 8, 16])

    def test_words_in_order_of_the_dictionary(self):
        pairs = Pairs(1, ((0, "right", "b"), (0, "left", "ab"), (0, "left", "abc"), (0, "left", "a"), (0, "ahead", 0, 0)))
        self.assertEqual(texts(pairs, 1), (("a",), ("ab",), ("abc",), ("b",)))
        self.assertEqual(self.agrees(pairs, 3), 64)

    def test_only_kind_0(self):
        pairs = Pairs(2, ((1, "left", "a"), (1, "behind", 1, 1), (0, "wrap", 0, 1)))
        self.assertEqual([texts(pairs, many) for many in range(5)], [()] * 5)
        pairs = Pairs(2, (*pairs.rules, (0, "wrap", 1, 1)))
        self.assertEqual([self.agrees(pairs, many) for many in range(5)], [0, 0, 1, 1, 1])

    def test_each_shape(self):
        words = ((1, "left", "a"), (2, "right", "b"), (3, "wrap", 1, 2))
        for shape, text in (("same", "ab"), ("first", "ab"), ("last", "ab")):
            self.assertEqual(texts(Pairs(4, ((0, shape, 3), *words)), 2), (tuple(text),))
        for shape, text in (("wrap", "aabb"), ("ahead", "abab"), ("behind", "abab")):
            self.assertEqual(texts(Pairs(4, ((0, shape, 3, 3), *words)), 4), (tuple(text),))
        for shape, text in (("wrap", "aab"), ("ahead", "aab"), ("behind", "aba")):
            self.assertEqual(texts(Pairs(4, ((0, shape, 3, 1), *words)), 3), (tuple(text),))
        # By "first" the gap is behind what was given, by "last" ahead of it.
        for shape, text in (("first", "abab"), ("last", "abab")):
            pairs = Pairs(5, ((0, "wrap", 4, 3), (4, shape, 3), *words))
            self.assertEqual(texts(pairs, 4), (tuple(text),))

    def test_the_richest(self):
        for pairs in RICH:
            for many in range(3):
                self.agrees(pairs, many)
        self.assertEqual(texts(RICH[1], 4), tuple(itertools.product("abcdefgh", repeat=4)))
        self.assertEqual(texts(RICH[0], 4), tuple(text for text in itertools.product(("a", "aa", "aaa"), repeat=4)))
        self.assertEqual(len(texts(RICH[2], 4)), 6 ** 4)
        known = all_of_kinds(RICH[3], 4)[0]
        for many in range(5):
            due = {first + second for _, (first, second) in known if len(first + second) == many}
            self.assertEqual(texts(RICH[3], many), tuple(sorted(due)))

    def test_drawn_ones(self):
        found = 0
        for seed in range(150):
            pairs = drawn_pairs(seed, 1 + seed % 5, 2 + seed % 8, ("a", "b"))
            found += sum(self.agrees(pairs, many) for many in range(5))
        self.assertGreater(found, 600)

    def test_9_rules_and_10(self):
        nine = tuple((0, "left", word) for word in "abcdefghi")
        self.assertEqual(texts(Pairs(1, nine), 1), tuple((word,) for word in "abcdefghi"))
        for rules in (nine + ((0, "left", "j"),), nine + (nine[0],), nine * 10):
            for many in range(5):
                with self.assertRaises(Undefined) as caught:
                    texts(Pairs(1, rules), many)
                self.assertIs(type(caught.exception), Undefined)
                self.assertEqual(caught.exception.what, "size")

    def test_how_many_words(self):
        for pairs in (four_parts(), EACH_SHAPE):
            for wrong in (-1, -2, 5, 6, 10 ** 12 - 1, True, False, None, "1", 1.0, (1,), [1], (), pairs, *ODD_VALUES):
                with self.assertRaises(InvalidNumber) as caught:
                    texts(pairs, wrong)
                self.assertIs(type(caught.exception), InvalidNumber)
                self.assertIs(caught.exception.value, wrong)

    def test_the_order_of_the_errors(self):
        self.assertGreater(len(EACH_SHAPE.rules), 9)
        self.assertRaises(InvalidNumber, texts, EACH_SHAPE, 5)
        self.assertRaises(InvalidNumber, texts, EACH_SHAPE, True)
        self.assertRaises(Undefined, texts, EACH_SHAPE, 4)

    def test_arguments_by_name_and_equal_calls(self):
        pairs = RICH[2]
        self.assertEqual(texts(many=2, pairs=pairs), texts(Pairs(pairs.kinds, tuple(list(pairs.rules))), 2))
        self.assertEqual(texts(four_parts(), 4), texts(four_parts(), 4))


class TestFourParts(unittest.TestCase):
    """[16] of the document: four_parts, and so (9) of its overview."""

    def test_just_as_told(self):
        pairs = four_parts()
        self.assertIsInstance(pairs, Pairs)
        self.assertEqual(pairs.kinds, 8)
        self.assertEqual(pairs.rules, (
            (0, "wrap", 1, 2), (0, "wrap", 3, 2), (1, "wrap", 3, 0), (2, "wrap", 4, 5), (3, "wrap", 6, 7),
            (4, "left", "b"), (5, "right", "c"), (6, "left", "a"), (7, "right", "d"),
        ))
        self.assertTrue(is_plain((pairs.kinds, pairs.rules)))
        self.assertEqual(pairs, four_parts())

    def test_its_texts(self):
        pairs = four_parts()
        self.assertEqual([texts(pairs, many) for many in range(5)], [(), (), (), (), (tuple("abcd"),)])
        self.assertEqual(lengths(pairs)[0], -2)
        for many in (5, 6, 7, 8):
            due = {tuple("aabbccdd")} if many == 8 else set()
            for signs in ("a" * x + "b" * y + "c" * z + "d" * (many - x - y - z) for x in range(many + 1)
                          for y in range(many + 1 - x) for z in range(many + 1 - x - y)):
                self.assertEqual(has_reading(pairs, tuple(signs)), tuple(signs) in due)

    def test_its_texts_of_8_words_by_all_readings(self):
        known = all_of_kinds(four_parts(), 8)[0]
        self.assertEqual(sorted(first + second for _, (first, second) in known), [tuple("aabbccdd"), tuple("abcd")])

    def test_its_longer_texts(self):
        # Each further step puts one more of each in.
        reading = (1, (4, (7,), (8,)), (3, (5,), (6,)))
        for many in range(1, 8):
            self.assertEqual(text_of(four_parts(), reading), ("a",) * many + ("b",) * many + ("c",) * many + ("d",) * many)
            reading = (0, (2, (4, (7,), (8,)), reading), (3, (5,), (6,)))


if __name__ == "__main__":
    unittest.main()
