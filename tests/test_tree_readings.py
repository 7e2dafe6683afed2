import unittest

from grammars import WRONG_TEXTS, Row, is_plain, texts_of
from groves import AB, FOOT, GROVE, XAB, all_tree_readings, drawn_trees, graft, plain, text_given, word
from treestacks.errors import InvalidText, Undefined
from treestacks.trees import Trees, tree_readings, tree_text

LEAF = (0, plain(word("a"), FOOT))

# The richest grammars of 6 trees: as many steps, or as many ways to put two or three together, as can be.
RICH = (
    Trees(2, ((0, graft(1, FOOT)), (0, plain(graft(1), FOOT)), (0, plain(FOOT, graft(1))), (1, LEAF[1]),
              (1, plain(FOOT, word("a"))), (1, graft(0, graft(0, FOOT))))),
    Trees(1, (LEAF, (0, plain(FOOT, word("b"))), (0, graft(0, graft(0), FOOT)), (0, plain(graft(0, FOOT), graft(0))),
              (0, plain(graft(0), word("b"), FOOT)), (0, plain(FOOT, graft(0), graft(0), graft(0))))),
    Trees(3, ((0, graft(1, FOOT)), (1, plain(FOOT, graft(2))), (2, graft(0, word("b"), FOOT)), (2, LEAF[1]),
              (1, graft(2, graft(0, FOOT))), (0, plain(graft(2, word("b")), FOOT)))),
)


class TestTreeReadings(unittest.TestCase):
    """[9] of the document: tree_readings, and so (3) of its overview."""

    def agrees(self, trees, words):
        """How many readings there are of all texts of these words, if these are those that the slow way tells."""
        known = all_tree_readings(trees, 3)[0]
        many = 0
        for text in texts_of(words, 3):
            due = sorted(reading for reading, given in known.items() if text_given(given) == text)
            told = tree_readings(trees, text)
            self.assertEqual(told, tuple(due))
            self.assertTrue(is_plain(told))
            self.assertTrue(all(tree_text(trees, reading) == text for reading in told))
            many += len(told)
        return many

    def test_one_tree(self):
        trees = Trees(1, (LEAF,))
        self.assertEqual(tree_readings(trees, ("a",)), ((0, ()),))
        for text in ((), ("b",), ("a", "a"), ("a", "a", "a")):
            self.assertEqual(tree_readings(trees, text), ())

    def test_only_kind_0(self):
        trees = Trees(2, ((1, LEAF[1]), (0, plain(FOOT, word("b")))))
        self.assertEqual(tree_readings(trees, ("a",)), ())
        self.assertEqual(tree_readings(trees, ("b",)), ((1, ()),))
        self.assertEqual(tree_readings(GROVE, ("a", "b")), ())
        self.assertEqual(tree_readings(GROVE, ("x", "a", "b")), (XAB,))
        self.assertEqual(XAB, (0, (AB,)))

    def test_equal_trees_give_readings_of_their_own(self):
        trees = Trees(2, ((1, LEAF[1]), (0, graft(1, FOOT)), (0, graft(1, FOOT)), (1, LEAF[1])))
        one, other = (0, ()), (3, ())
        self.assertEqual(tree_readings(trees, ("a",)), ((1, (one,)), (1, (other,)), (2, (one,)), (2, (other,))))

    def test_the_foot_is_nothing_in_the_text(self):
        trees = Trees(1, (LEAF, (0, plain(FOOT, word("a"))), (0, plain(word("a"), FOOT, word("b")))))
        self.assertEqual(tree_readings(trees, ("a",)), ((0, ()), (1, ())))
        self.assertEqual(tree_readings(trees, ("a", "b")), ((2, ()),))

    def test_the_richest(self):
        self.assertEqual(len(tree_readings(RICH[0], ("a",) * 3)), 2 * 3 ** 5 * 2 ** 3)
        for trees in RICH:
            self.assertGreater(self.agrees(trees, ("a", "b")), 10)

    def test_drawn_ones(self):
        many = 0
        for seed in range(300):
            trees = drawn_trees(seed, 1 + seed % 3, 2 + seed % 5, ("a", "b"), 3 + seed % 6)
            many += self.agrees(trees, ("a", "b"))
        self.assertGreater(many, 800)

    def test_ascending_each_once(self):
        for trees in RICH:
            for text in texts_of(("a", "b"), 3):
                told = tree_readings(trees, text)
                self.assertTrue(all(one < other for one, other in zip(told, told[1:])))

    def test_no_reading_of_no_words(self):
        for trees in (GROVE, *RICH):
            self.assertEqual(tree_readings(trees, ()), ())

    def test_more_words_and_grafts_than_a_text_has(self):
        trees = Trees(1, (LEAF, (0, plain(FOOT, *[graft(0)] * 4)), (0, plain(*[word("a")] * 4, FOOT)),
                          (0, plain(*[graft(0)] * 10, FOOT)), (0, plain(FOOT, word("a"), *[graft(0)] * 3))))
        for text in texts_of(("a",), 3):
            self.assertEqual(tree_readings(trees, text), ((0, ()),) if len(text) == 1 else ())

    def test_steps_out_of_their_order(self):
        trees = Trees(8, ((0, graft(7, FOOT)), (7, plain(graft(3), FOOT)), (3, plain(FOOT, graft(5))), (5, graft(1, FOOT)),
                          (1, plain(word("a"), FOOT, word("b")))))
        self.assertEqual(tree_readings(trees, ("a", "b")), ((0, ((1, ((2, ((3, ((4, ()),)),)),)),)),))

    def test_arguments_by_name_and_tuples_of_a_class(self):
        trees = Trees(1, (LEAF,))
        self.assertEqual(tree_readings(text=("a",), trees=trees), ((0, ()),))
        self.assertEqual(tree_readings(trees, Row(["a"])), ((0, ()),))
        self.assertTrue(is_plain(tree_readings(trees, Row(["a"]))))

    def test_unless_it_is_a_text_of_at_most_3_words(self):
        for trees in (Trees(1, (LEAF,)), Trees(1, (LEAF,) * 7), Trees(1, (LEAF,) * 9)):
            for text in (*WRONG_TEXTS, ("a",) * 4, ("a",) * 8, ("a",) * 9):
                with self.assertRaises(InvalidText) as caught:
                    tree_readings(trees, text)
                self.assertIs(caught.exception.value, text)

    def test_more_than_6_trees(self):
        for many in (7, 8, 9):
            for text in ((), ("a",), ("b", "a", "a")):
                with self.assertRaises(Undefined) as caught:
                    tree_readings(Trees(1, (LEAF,) * many), text)
                self.assertEqual(caught.exception.what, "size")
        for many in (1, 5, 6):
            told = tree_readings(Trees(8, (LEAF,) * many), ("a",))
            self.assertEqual(told, tuple((number, ()) for number in range(many)))

    def test_equal_calls_return_equal_results(self):
        for trees in RICH:
            again = Trees(trees.kinds, tuple(list(trees.trees)))
            self.assertEqual(tree_readings(trees, ("a", "a")), tree_readings(again, ("a", "a")))


if __name__ == "__main__":
    unittest.main()
