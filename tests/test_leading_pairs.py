import unittest

from grammars import (
    EACH_READING, EACH_SHAPE, ODD_VALUES, SHAPES, Row, alike, all_of_kinds, drawn_pairs, is_plain, nested,
)
from groves import FOOT, GROVE, all_tree_readings, plain, word, words_given
from treestacks.errors import InvalidReading, Undefined
from treestacks.leading import reading_from_trees, tree_reading_of, trees_of
from treestacks.pairs import Pairs, pair_of, text_of
from treestacks.trees import Trees, tree_text

# A rule of each shape, within 8 kinds and 9 rules; 1 is ahead of, and in the gap of, what kind 0 gives.
SHAPED = Pairs(8, (
    (2, "left", "a"), (3, "right", "b"), (0, "wrap", 2, 3), (4, "same", 0), (5, "first", 0), (6, "last", 4),
    (7, "ahead", 0, 2), (1, "behind", 0, 3), (1, "wrap", 0, 7),
))
A, B = (0,), (1,)
AB = (2, A, B)
AAB = (6, AB, A)

# Readings of it, and the tree readings to which they are led.
LED = (
    (A, (0, ())),
    (B, (1, ())),
    (AB, (2, ((0, ()), (1, ())))),
    ((3, AB), (3, ((2, ((0, ()), (1, ()))),))),
    ((4, AB), (4, ((2, ((0, ()), (1, ()))),))),
    ((5, (3, AB)), (5, ((3, ((2, ((0, ()), (1, ()))),)),))),
    (AAB, (6, ((0, ()), (2, ((0, ()), (1, ())))))),
    ((7, AB, B), (7, ((2, ((0, ()), (1, ()))), (1, ())))),
    ((8, AB, AAB), (8, ((2, ((0, ()), (1, ()))), (6, ((0, ()), (2, ((0, ()), (1, ())))))))),
)

SIDES = Pairs(2, ((0, "left", "a"), (0, "ahead", 0, 0), (0, "wrap", 0, 0), (1, "same", 0), (0, "right", "b")))


def tower(rules, number, side):
    """A reading of kind 0 of SIDES of so many rules, an odd number, as deep as can be."""
    reading = (0,)
    for _ in range(rules // 2):
        reading = (number, reading, (4,)) if side == 0 else (number, (4,), reading)
    return reading


def wrong_readings(readings):
    """What is neither a reading nor a tree reading by SHAPED, by readings and any values."""
    yield from (value for value in ODD_VALUES if value != (0, ()))
    for reading in readings:
        yield from (list(reading), reading + (0,), reading + ((),), (reading,), reading[:-1], (True,) + reading[1:])
        yield from ((9,) + reading[1:], (-1,) + reading[1:], (None,) + reading[1:], (10 ** 11,) + reading[1:])


class TestTreesOf(unittest.TestCase):
    """[10] of the document: trees_of."""

    def test_each_shape(self):
        trees = trees_of(SHAPED)
        self.assertIsInstance(trees, Trees)
        self.assertEqual(trees.kinds, 8)
        self.assertEqual(trees.trees, (
            (2, ("plain", (("word", "a"), ("foot",)))),
            (3, ("plain", (("foot",), ("word", "b")))),
            (0, ("graft", 2, (("graft", 3, (("foot",),)),))),
            (4, ("graft", 0, (("foot",),))),
            (5, ("plain", (("graft", 0, ()), ("foot",)))),
            (6, ("plain", (("foot",), ("graft", 4, ())))),
            (7, ("plain", (("graft", 2, ()), ("graft", 0, (("foot",),))))),
            (1, ("plain", (("graft", 0, (("foot",),)), ("graft", 3, ())))),
            (1, ("graft", 0, (("graft", 7, (("foot",),)),))),
        ))
        self.assertTrue(is_plain(trees.trees))

    def test_one_kind_and_as_many_kinds(self):
        for kinds in (1, 8):
            trees = trees_of(Pairs(kinds, ((0, "left", "a"),)))
            self.assertEqual(trees, Trees(kinds, ((0, plain(word("a"), FOOT)),)))

    def test_arguments_by_name(self):
        self.assertEqual(trees_of(pairs=SHAPED), trees_of(SHAPED))
        self.assertEqual(tree_reading_of(reading=AAB, pairs=SHAPED), tree_reading_of(SHAPED, AAB))
        self.assertEqual(reading_from_trees(reading=(0, ()), pairs=SHAPED), (0,))

    def test_size(self):
        leaf = (0, "left", "a")
        for kinds, many in ((8, 1), (1, 9), (8, 9)):
            self.assertEqual(len(trees_of(Pairs(kinds, (leaf,) * many)).trees), many)
            self.assertEqual(tree_reading_of(Pairs(kinds, (leaf,) * many), (0,)), (0, ()))
            self.assertEqual(reading_from_trees(Pairs(kinds, (leaf,) * many), (0, ())), (0,))
        for kinds, many in ((9, 1), (1, 10), (9, 9), (8, 10), (40, 90)):
            pairs = Pairs(kinds, (leaf,) * many)
            with self.assertRaises(Undefined) as caught:
                trees_of(pairs)
            self.assertEqual(caught.exception.what, "size")
            for function in (tree_reading_of, reading_from_trees):
                for reading in ((0,), (0, ()), (many,), None, [0], (True,)):
                    with self.assertRaises(Undefined) as caught:
                        function(pairs, reading)
                    self.assertEqual(caught.exception.what, "size")


class TestThereAndBack(unittest.TestCase):
    """[10] of the document: tree_reading_of and reading_from_trees, and so (4) of its overview."""

    def refused(self, function, pairs, reading):
        with self.assertRaises(InvalidReading) as caught:
            function(pairs, reading)
        self.assertIs(caught.exception.value, reading)

    def test_each_shape(self):
        for reading, due in LED:
            self.assertEqual(tree_reading_of(SHAPED, reading), due)
            self.assertEqual(reading_from_trees(SHAPED, due), reading)
            self.assertEqual(tree_text(trees_of(SHAPED), due), text_of(SHAPED, reading))
            self.assertTrue(is_plain((tree_reading_of(SHAPED, reading), reading_from_trees(SHAPED, due))))

    def test_the_order_of_grafts(self):
        pairs = Pairs(1, ((0, "left", "a"), (0, "left", "b"), *[(0, shape, 0, 0) for shape in SHAPES[5:]]))
        for number, due in ((2, ((0, ()), (1, ()))), (3, ((1, ()), (0, ()))), (4, ((0, ()), (1, ())))):
            self.assertEqual(tree_reading_of(pairs, (number, (0,), (1,))), (number, due))
            self.assertEqual(reading_from_trees(pairs, (number, due)), (number, (0,), (1,)))
        reading = (3, (2, (0,), (3, (1,), (0,))), (3, (0,), (4, (1,), (1,))))
        due = (3, ((3, ((4, ((1, ()), (1, ()))), (0, ()))), (2, ((0, ()), (3, ((0, ()), (1, ())))))))
        self.assertEqual(tree_reading_of(pairs, reading), due)
        self.assertEqual(reading_from_trees(pairs, due), reading)

    def test_drawn_ones(self):
        many = 0
        for seed in range(60):
            pairs = drawn_pairs(seed, 1 + seed % 4, 3 + seed % 5, ("a", "b"))
            trees = trees_of(pairs)
            known = all_of_kinds(pairs, 3)
            all_trees = all_tree_readings(trees, 3)
            for kind in range(pairs.kinds):
                led = {tree_reading_of(pairs, reading): (reading, pair) for reading, pair in known[kind]}
                # Each is led to one of the same kind, unlike ones to unlike ones, and each there comes from one.
                self.assertEqual(len(led), len(known[kind]))
                self.assertEqual(set(led), set(all_trees[kind]))
                for tree_reading, (reading, pair) in led.items():
                    words = words_given(trees, tree_reading)
                    gap = words.index("_")
                    self.assertEqual((words[:gap], words[gap + 1:]), pair)
                    self.assertEqual(tree_text(trees, tree_reading), pair[0] + pair[1])
                    self.assertEqual(reading_from_trees(pairs, tree_reading), reading)
                many += len(led)
        self.assertGreater(many, 1000)

    def test_tuples_of_a_class(self):
        def rows(value):
            return Row([rows(part) for part in value]) if isinstance(value, tuple) else value
        for reading, due in LED:
            self.assertTrue(is_plain(tree_reading_of(SHAPED, rows(reading))))
            self.assertTrue(is_plain(reading_from_trees(SHAPED, rows(due))))
            self.assertEqual(tree_reading_of(SHAPED, rows(reading)), due)
            self.assertEqual(reading_from_trees(SHAPED, rows(due)), reading)

    def test_what_is_no_reading(self):
        for reading in wrong_readings([reading for reading, _ in LED]):
            self.refused(tree_reading_of, SHAPED, reading)
        for _, reading in LED:
            self.refused(tree_reading_of, SHAPED, reading)
        for reading in ((2, B, A), (2, A, A), (3, A), (5, AB), (6, A, AB), (7, AB, A), (8, AB, AB), (2, A, [1]),
                        (2, A, (True,)), (2, (False,), B), (5, (3, (2, A)))):
            self.refused(tree_reading_of, SHAPED, reading)

    def test_what_is_no_tree_reading(self):
        for reading in wrong_readings([reading for _, reading in LED]):
            self.refused(reading_from_trees, SHAPED, reading)
        for reading, _ in LED:
            self.refused(reading_from_trees, SHAPED, reading)
        a, b = (0, ()), (1, ())
        ab = (2, (a, b))
        for reading in ((2, (b, a)), (2, (a, a)), (2, (a,)), (2, (a, b, b)), (3, (a,)), (5, (ab,)), (6, (ab, a)),
                        (6, (a, a)), (7, (b, ab)), (8, (ab, ab)), (2, [a, b]), (2, (a, [1, ()])), (2, (a, (True, ()))),
                        (2, ((False, ()), b)), (2, ((0, []), b)), (6, (a, (2, (a,)))), (2, a, b)):
            self.refused(reading_from_trees, SHAPED, reading)

    def test_of_other_pairs(self):
        for reading, _, _ in EACH_READING:
            with self.assertRaises(Undefined):
                tree_reading_of(EACH_SHAPE, reading)
        fewer = Pairs(8, SHAPED.rules[:6])
        for reading, due in LED[6:]:
            self.refused(tree_reading_of, fewer, reading)
            self.refused(reading_from_trees, fewer, due)
        for reading in (GROVE, trees_of(SHAPED), SHAPED):
            self.refused(tree_reading_of, SHAPED, reading)
            self.refused(reading_from_trees, SHAPED, reading)

    def test_600_rules_and_trees(self):
        trees = trees_of(SIDES)
        for number in (1, 2):
            for side in (0, 1):
                for reading in (tower(599, number, side), (3, tower(599, number, side))):
                    led = tree_reading_of(SIDES, reading)
                    self.assertEqual(tree_text(trees, led), text_of(SIDES, reading))
                    self.assertTrue(alike(reading_from_trees(SIDES, led), reading))

    def test_601_rules_and_trees(self):
        for number in (1, 2):
            for side in (0, 1):
                for rules in (601, 603, 5001):
                    self.refused(tree_reading_of, SIDES, tower(rules, number, side))
                self.refused(tree_reading_of, SIDES, (3, tower(601, number, side)))
        tree_reading = (0, ())
        for _ in range(299):
            tree_reading = (1, ((4, ()), tree_reading))
        self.assertEqual(len(text_of(SIDES, reading_from_trees(SIDES, tree_reading))), 300)
        self.assertEqual(pair_of(SIDES, reading_from_trees(SIDES, (3, (tree_reading,))))[1], ())
        for wrong in ((1, ((0, ()), tree_reading)), (2, (tree_reading, (4, ()))), (3, ((1, ((0, ()), tree_reading)),))):
            self.refused(reading_from_trees, SIDES, wrong)

    def test_they_are_counted_as_often_as_they_come(self):
        reading, tree_reading = (0,), (0, ())
        for _ in range(8):
            reading, tree_reading = (2, reading, reading), (2, (tree_reading, tree_reading))
        self.assertEqual(tree_reading_of(SIDES, reading), tree_reading)
        self.assertEqual(reading_from_trees(SIDES, tree_reading), reading)
        for _ in range(20):
            reading, tree_reading = (2, reading, reading), (2, (tree_reading, tree_reading))
            self.refused(tree_reading_of, SIDES, reading)
            self.refused(reading_from_trees, SIDES, tree_reading)

    def test_deep_values(self):
        for function in (tree_reading_of, reading_from_trees):
            self.refused(function, SIDES, nested(5000))
            for wrong in (None, (True,), (0, ((),)), (5, ()), (5,)):
                reading, tree_reading = wrong, wrong
                for _ in range(298):
                    reading, tree_reading = (2, (0,), reading), (2, ((0, ()), tree_reading))
                self.refused(function, SIDES, reading)
                self.refused(function, SIDES, tree_reading)


if __name__ == "__main__":
    unittest.main()
