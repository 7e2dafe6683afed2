import unittest

from grammars import ODD_VALUES, Row, is_plain, nested
from groves import (
    AB, C, FOOT, GROVE, GROVE_READINGS, XAB, all_tree_readings, drawn_trees, graft, plain, text_given, word,
)
from treestacks.errors import InvalidReading
from treestacks.trees import Trees, tree_text

# Readings of kind 0 may be as large and as deep as is asked for.
ONE_KIND = Trees(2, (
    (0, plain(word("a"), FOOT)),
    (0, graft(0, graft(0, FOOT))),
    (0, plain(graft(0), word("b"), FOOT)),
    (1, graft(0, FOOT)),
))


def tower(many, side):
    """A tree reading of kind 0 of ONE_KIND of so many trees, as deep as can be: 2 by each, or 1 by each of tree 2."""
    reading = (0, ())
    if side == 2:
        for _ in range(many - 1):
            reading = (2, (reading,))
        return reading
    for _ in range(many // 2):
        reading = (1, (reading, (0, ())) if side == 0 else ((0, ()), reading))
    return reading


class TestTreeText(unittest.TestCase):
    """[9] of the document: tree_text, with [1], [2] and [4]."""

    def refused(self, trees, reading):
        with self.assertRaises(InvalidReading) as caught:
            tree_text(trees, reading)
        self.assertIs(caught.exception.value, reading)

    def test_of_any_kind(self):
        for reading, kind, words in GROVE_READINGS:
            self.assertEqual(GROVE.trees[reading[0]][0], kind)
            self.assertEqual(tree_text(GROVE, reading), text_given(words))

    def test_each_form_of_knot(self):
        around = (1, plain(word("l"), FOOT, word("r")))
        for knot, text in (
            (plain(word("a"), FOOT), "a"),
            (plain(word("a"), FOOT, word("b")), "ab"),
            (plain(word("a"), plain(word("b"), plain(FOOT), plain()), word("c"), plain(plain(word("d")))), "abcd"),
            (graft(1, FOOT), "lr"),
            (graft(1, word("a"), FOOT, word("b")), "labr"),
            (plain(graft(1), FOOT), "lr"),
            (plain(graft(1, word("a")), FOOT), "lar"),
            (plain(FOOT, graft(1, plain(), plain(plain()))), "lr"),
            (plain(graft(1, word("a")), word("b"), graft(1, FOOT, word("c")), graft(1)), "larblcrlr"),
            (graft(1, graft(1, word("a"), graft(1, plain(FOOT)))), "llalrrr"),
        ):
            trees = Trees(2, ((0, knot), around))
            parts = ((1, ()),) * str(knot).count("graft")
            self.assertEqual(tree_text(trees, (0, parts)), tuple(text))

    def test_the_gap_is_where_the_foot_is(self):
        outer = (0, graft(1, word("g")))
        for knot, text in (
            (plain(FOOT, word("a"), word("b")), "gab"), (plain(word("a"), FOOT, word("b")), "agb"),
            (plain(word("a"), plain(FOOT), word("b")), "agb"), (plain(plain(word("a"), word("b")), plain(FOOT)), "abg"),
            (graft(2, FOOT), "lgr"), (graft(2, word("a"), FOOT), "lagr"), (plain(graft(2), FOOT), "lrg"),
            (plain(FOOT, graft(2, word("a"))), "glar"), (graft(2, graft(2, FOOT), word("a")), "llgrar"),
        ):
            trees = Trees(3, ((0, plain(outer[1], FOOT)), (1, knot), (2, plain(word("l"), FOOT, word("r")))))
            inner = (1, ((2, ()),) * str(knot).count("graft"))
            self.assertEqual(tree_text(trees, (0, (inner,))), tuple(text))

    def test_grafts_in_their_order(self):
        trees = Trees(4, (
            (0, graft(1, graft(2), plain(graft(3, FOOT)))),
            (1, plain(word("a"), FOOT, word("b"))), (2, plain(word("c"), FOOT)), (3, plain(FOOT, word("d"))),
        ))
        self.assertEqual(tree_text(trees, (0, ((1, ()), (2, ()), (3, ())))), tuple("acdb"))
        for parts in (((1, ()), (3, ()), (2, ())), ((2, ()), (1, ()), (3, ())), ((3, ()), (2, ()), (1, ()))):
            self.refused(trees, (0, parts))
        same = Trees(2, ((0, graft(1, graft(1), graft(1, FOOT))), *[(1, plain(FOOT, word(one))) for one in "abc"]))
        self.assertEqual(tree_text(same, (0, ((1, ()), (2, ()), (3, ())))), tuple("bca"))
        self.assertEqual(tree_text(same, (0, ((3, ()), (2, ()), (1, ())))), tuple("bac"))

    def test_drawn_ones(self):
        for seed in range(60):
            trees = drawn_trees(seed, 1 + seed % 4, 2 + seed % 6, ("a", "b"), 4 + seed % 9)
            for known in all_tree_readings(trees, 6 if seed % 3 == 0 else 4):
                for reading, words in list(known.items())[:100]:
                    self.assertEqual(tree_text(trees, reading), text_given(words))

    def test_arguments_by_name_and_tuples_of_a_class(self):
        self.assertEqual(tree_text(reading=XAB, trees=GROVE), ("x", "a", "b"))
        self.assertEqual(tree_text(GROVE, Row((0, Row((Row((2, Row())),))))), ("x", "a", "b"))
        self.assertTrue(is_plain(tree_text(GROVE, Row((0, Row((Row((2, Row())),)))))))

    def test_no_value_is_a_tree_reading(self):
        for value in ODD_VALUES:
            self.refused(GROVE, value)
            self.refused(GROVE, (0, value))
            self.refused(GROVE, (0, (value,)))
            self.refused(GROVE, (1, (AB, value, C)))
            if value != ():
                self.refused(GROVE, (2, value))

    def test_another_kind_within(self):
        for reading in ((0, (C,)), (0, (XAB,)), (1, (C, C, C)), (1, (AB, AB, C)), (1, (AB, C, AB)), (1, (AB, C, XAB)),
                        (4, (C,)), (5, (AB,)), (5, ((0, (C,)),)), (1, (AB, C, (4, (C,))))):
            self.refused(GROVE, reading)

    def test_parts_left_out_or_put_to(self):
        for reading, _, _ in GROVE_READINGS:
            number, parts = reading
            for wrong in ((number,), (parts,), (), (number, parts, ()), (number, parts, 0), (number, *parts, 0),
                          (number, parts + (AB,)), (number, (AB,) + parts), (number, (parts,)), (number, number),
                          (parts, number), ((number, parts),), (number, parts + ((),))):
                self.refused(GROVE, wrong)
            for at in range(len(parts)):
                self.refused(GROVE, (number, parts[:at] + parts[at + 1:]))
                self.refused(GROVE, (number, parts[:at] + (parts[at][:1],) + parts[at + 1:]))
                self.refused(GROVE, (number, parts[:at] + (parts[at] + ((),),) + parts[at + 1:]))
        self.refused(GROVE, (2,))
        self.refused(GROVE, 2)

    def test_numbers_that_no_tree_has(self):
        for wrong in (-1, -6, 6, 7, 10 ** 12 - 1, True, False, None, "0", (0,), [0], 0.0, GROVE):
            for reading, _, _ in GROVE_READINGS:
                self.refused(GROVE, (wrong, reading[1]))
            self.refused(GROVE, (0, ((wrong, ()),)))
            self.refused(GROVE, (1, (AB, (wrong, ()), C)))

    def test_bools_are_no_numbers(self):
        self.refused(ONE_KIND, (False, ()))
        self.refused(GROVE, (False, (AB,)))
        self.refused(GROVE, (True, (AB, C, C)))
        self.refused(ONE_KIND, (3, ((False, ()),)))

    def test_lists_are_no_tuples(self):
        for reading in ([2, ()], (2, []), [0, (AB,)], (0, [AB]), (0, ([2, ()],)), (0, ((2, []),)), (1, [AB, C, C]),
                        (1, (AB, [3, ()], C)), (2, {}), (2, "")):
            self.refused(GROVE, reading)

    def test_600_trees(self):
        for side in (0, 1):
            reading = tower(599, side)
            self.assertEqual(tree_text(ONE_KIND, reading), ("a",) * 300)
            self.assertEqual(tree_text(ONE_KIND, (3, (reading,))), ("a",) * 300)
        self.assertEqual(tree_text(ONE_KIND, tower(600, 2)), ("a",) + ("b",) * 599)

    def test_601_trees_and_more(self):
        for side in (0, 1, 2):
            for many in (601, 603, 1201, 5001):
                self.refused(ONE_KIND, tower(many, side))
            self.refused(ONE_KIND, (3, (tower(601, side),)))
            self.refused(ONE_KIND, (1, (tower(299, side), tower(301, side))))
        self.assertEqual(len(tree_text(ONE_KIND, (1, (tower(299, 0), tower(299, 2))))), 150 + 299)

    def test_trees_are_counted_as_often_as_they_come(self):
        reading = (0, ())
        for _ in range(8):
            reading = (1, (reading, reading))
        self.assertEqual(tree_text(ONE_KIND, reading), ("a",) * 256)
        for _ in range(20):
            reading = (1, (reading, reading))
            self.refused(ONE_KIND, reading)

    def test_deep_values(self):
        self.refused(ONE_KIND, nested(5000))
        for wrong in (None, (True, ()), (4, ()), (0, ((0, ()),))):
            for many in (200, 598, 5000):
                reading = wrong
                for _ in range(many):
                    reading = (2, (reading,))
                self.refused(ONE_KIND, reading)

    def test_large_values(self):
        self.refused(GROVE, (2, ((2, ()),) * 9000))
        self.refused(GROVE, (0, (AB,) * 9000))
        large = Trees(1, ((0, plain(FOOT, *[graft(0)] * 10)), (0, plain(*[word("a")] * 10, FOOT))))
        leaves = ((1, ()),) * 10
        rows = ((0, leaves),) * 10
        self.assertEqual(tree_text(large, (0, rows)), ("a",) * 1000)
        self.assertEqual(len(tree_text(large, (0, ((0, rows),) * 5 + ((1, ()),) * 5))), 5050)
        self.refused(large, (0, ((0, rows),) * 6 + ((1, ()),) * 4))

    def test_arguments_do_not_change(self):
        reading = [0, [[2, []]]]
        self.refused(GROVE, reading)
        self.assertEqual(reading, [0, [[2, []]]])


if __name__ == "__main__":
    unittest.main()
