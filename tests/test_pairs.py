import unittest

from grammars import EACH_SHAPE, ODD_VALUES, SHAPES, Row, is_plain
from treestacks.errors import Endless, InvalidNumber, InvalidRules
from treestacks.pairs import Pairs

LEAF = (0, "left", "a")

# Right rules of 3 kinds, one or more of each shape.
RIGHT = (
    (0, "left", "a"), (2, "left", "zzz"), (1, "left", "ab"), (0, "right", "a"), (2, "right", "qrs"),
    (0, "same", 1), (1, "first", 2), (0, "last", 2),
    (0, "wrap", 0, 0), (2, "wrap", 1, 0), (1, "ahead", 2, 2), (2, "ahead", 0, 1), (1, "behind", 1, 2),
    (2, "behind", 2, 2),
)

WRONG_KINDS = (-1, 3, 10 ** 12 - 1, True, False, None, "0", (), (0,), [0], 0.0, EACH_SHAPE)
WRONG_WORDS = (
    "", "abcd", "A", "aB", "a1", "a b", " a", "a\n", "-", "\u00e9", "\u00df", "`", "{", "a" * 4000,
    0, True, None, ("a",), ["a"], b"a", (), EACH_SHAPE,
)
WRONG_SHAPES = ("", "Left", "lefts", "mid", "same ", "left\n", None, True, 0, ("left",), ["left"], (), EACH_SHAPE)


class TestPairs(unittest.TestCase):
    """[5] of the document, with [1], [2] and [4]."""

    def refused(self, error, value, *arguments):
        with self.assertRaises(error) as caught:
            Pairs(*arguments)
        self.assertIs(type(caught.exception), error)
        self.assertIs(caught.exception.value, value)

    def refused_rule(self, rule):
        for rules in ((rule,), (LEAF, rule), (rule, LEAF), (LEAF,) * 89 + (rule,)):
            self.refused(InvalidRules, rules, 3, rules)

    def test_it_keeps_kinds_and_rules(self):
        pairs = Pairs(3, RIGHT)
        self.assertEqual(pairs.kinds, 3)
        self.assertEqual(pairs.rules, RIGHT)
        self.assertTrue(is_plain((pairs.kinds, pairs.rules)))

    def test_arguments_by_name(self):
        pairs = Pairs(rules=RIGHT, kinds=3)
        self.assertEqual((pairs.kinds, pairs.rules), (3, RIGHT))

    def test_what_is_kept_is_plain(self):
        pairs = Pairs(3, Row([Row(rule) for rule in RIGHT]))
        self.assertEqual(pairs.rules, RIGHT)
        self.assertTrue(is_plain(pairs.rules))
        self.assertEqual(pairs, Pairs(3, RIGHT))

    def test_equal_rules_may_come_again(self):
        self.assertEqual(Pairs(1, (LEAF, LEAF)).rules, (LEAF, LEAF))

    def test_equal_if_both_are(self):
        self.assertTrue(Pairs(3, RIGHT) == Pairs(3, tuple(list(RIGHT))))
        self.assertFalse(Pairs(3, RIGHT) != Pairs(3, RIGHT))
        self.assertFalse(Pairs(3, RIGHT) == Pairs(4, RIGHT))
        self.assertFalse(Pairs(3, RIGHT) == Pairs(3, RIGHT[:-1]))
        self.assertFalse(Pairs(3, RIGHT) == Pairs(3, RIGHT[::-1]))
        self.assertTrue(Pairs(3, RIGHT) != Pairs(3, RIGHT[1:]))
        self.assertTrue(Pairs(1, (LEAF,)) != Pairs(1, ((0, "right", "a"),)))

    def test_equal_to_nothing_else(self):
        pairs = Pairs(1, (LEAF,))
        others = (1, (LEAF,), (1, (LEAF,)), [1, (LEAF,)], None, True, "", object(), InvalidRules((LEAF,)), Pairs)
        for other in others:
            self.assertFalse(pairs == other)
            self.assertFalse(other == pairs)
            self.assertTrue(pairs != other)

    def test_not_iterable(self):
        pairs = Pairs(3, RIGHT)
        self.assertRaises(TypeError, iter, pairs)
        self.assertRaises(TypeError, list, pairs)
        with self.assertRaises(TypeError):
            LEAF in pairs

    def test_how_many_kinds(self):
        for kinds in (1, 2, 39, 40):
            self.assertEqual(Pairs(kinds, (LEAF,)).kinds, kinds)
        for kinds in (0, 41, -1, 10 ** 12 - 1, True, False, None, "1", 1.0, (1,), [1], EACH_SHAPE):
            self.refused(InvalidNumber, kinds, kinds, (LEAF,))
        for kinds in ODD_VALUES:
            self.refused(InvalidNumber, kinds, kinds, (LEAF,))

    def test_how_many_rules(self):
        for many in (1, 2, 89, 90):
            self.assertEqual(Pairs(1, (LEAF,) * many).rules, (LEAF,) * many)
        for many in (0, 91, 92, 30000):
            rules = (LEAF,) * many
            self.refused(InvalidRules, rules, 1, rules)

    def test_rules_are_a_tuple(self):
        for rules in ([LEAF], LEAF, {LEAF: LEAF}, iter((LEAF,)), "left", EACH_SHAPE, *ODD_VALUES):
            self.refused(InvalidRules, rules, 40, rules)

    def test_each_right_rule(self):
        for rule in RIGHT:
            self.assertEqual(Pairs(3, (rule,)).rules, (rule,))

    def test_no_value_is_a_rule(self):
        for value in ODD_VALUES:
            self.refused_rule(value)

    def test_rules_too_short_too_long_or_no_tuples(self):
        for rule in RIGHT:
            for end in range(len(rule)):
                self.refused_rule(rule[:end])
            for more in (0, "a", "left", None, ()):
                self.refused_rule(rule + (more,))
            self.refused_rule(list(rule))
            self.refused_rule((rule,))
        self.refused_rule((0, "wrap", 1, 2, 3))
        self.refused_rule((0, "same"))
        self.refused_rule((0,))
        self.refused_rule(())

    def test_wrong_kinds(self):
        for wrong in WRONG_KINDS:
            for rule in RIGHT:
                self.refused_rule((wrong,) + rule[1:])
                if rule[1] not in ("left", "right"):
                    for at in range(2, len(rule)):
                        self.refused_rule(rule[:at] + (wrong,) + rule[at + 1:])

    def test_kinds_up_to_their_number(self):
        for kinds in (1, 2, 40):
            for shape in SHAPES[5:]:
                rule = (kinds - 1, shape, kinds - 1, kinds - 1)
                self.assertEqual(Pairs(kinds, (rule,)).rules, (rule,))
                for at in (0, 2, 3):
                    rules = (rule[:at] + (kinds,) + rule[at + 1:],)
                    self.refused(InvalidRules, rules, kinds, rules)

    def test_wrong_words(self):
        for wrong in WRONG_WORDS:
            for side in ("left", "right"):
                self.refused_rule((0, side, wrong))

    def test_words_are_of_1_to_3_letters(self):
        for word in ("a", "z", "az", "zz", "abc", "mno", "zzz"):
            for side in ("left", "right"):
                rules = ((0, side, word),)
                self.assertEqual(Pairs(1, rules).rules, rules)

    def test_wrong_shapes(self):
        for wrong in WRONG_SHAPES:
            for rule in RIGHT:
                self.refused_rule((rule[0], wrong) + rule[2:])

    def test_shapes_do_not_take_the_parts_of_others(self):
        for shape in SHAPES[:2]:
            self.refused_rule((0, shape, 1))
            self.refused_rule((0, shape, "a", "a"))
        for shape in SHAPES[2:5]:
            self.refused_rule((0, shape, "a"))
            self.refused_rule((0, shape, 1, 2))
        for shape in SHAPES[5:]:
            self.refused_rule((0, shape, 1))
            self.refused_rule((0, shape, 1, "a"))
            self.refused_rule((0, shape, "a", 1))
            self.refused_rule((0, shape, 1, 2, 0))


class TestEndless(unittest.TestCase):
    """[5] of the document: kinds that come back to themselves."""

    def endless(self, kind, kinds, rules):
        with self.assertRaises(Endless) as caught:
            Pairs(kinds, rules)
        self.assertEqual(caught.exception.kind, kind)
        self.assertIs(type(caught.exception.kind), int)

    def test_by_one_step(self):
        for shape in ("same", "first", "last"):
            self.endless(0, 1, ((0, shape, 0),))
            self.endless(2, 3, ((0, "left", "a"), (2, shape, 2)))

    def test_by_several_steps(self):
        self.endless(1, 3, ((1, "first", 2), (2, "last", 1)))
        self.endless(0, 3, ((0, "same", 2), (2, "first", 1), (1, "last", 0)))
        row = tuple((kind, "same", kind + 1) for kind in range(39))
        self.endless(0, 40, row + ((39, "same", 0),))
        self.endless(17, 40, row + ((39, "last", 17),))
        self.assertEqual(Pairs(40, row).rules, row)

    def test_the_least_of_those_that_come_back(self):
        self.endless(1, 4, ((3, "same", 3), (2, "same", 1), (1, "same", 2)))
        self.endless(2, 5, ((4, "first", 3), (3, "first", 4), (2, "last", 2)))
        # 0 and 1 lead to one that comes back, but do not come back themselves.
        self.endless(2, 4, ((0, "same", 1), (1, "same", 2), (2, "same", 3), (3, "same", 2)))
        self.endless(3, 4, ((0, "same", 3), (3, "same", 3)))

    def test_rules_of_two_parts_are_no_steps(self):
        for shape in ("wrap", "ahead", "behind"):
            rules = ((0, shape, 0, 0), (1, shape, 0, 1), (0, shape, 1, 1), (0, "same", 1))
            self.assertEqual(Pairs(2, rules).rules, rules)

    def test_two_ways_to_one_kind_are_no_way_back(self):
        rules = ((0, "same", 1), (0, "first", 2), (1, "last", 3), (2, "same", 3), (0, "same", 3), (0, "same", 1))
        self.assertEqual(Pairs(4, rules).rules, rules)

    def test_steps_go_by_kind_and_not_by_number(self):
        rules = ((2, "same", 0), (0, "same", 1))
        self.assertEqual(Pairs(3, rules).rules, rules)
        self.endless(0, 3, rules + ((1, "same", 2),))


class TestOrderOfErrors(unittest.TestCase):
    """[2] of the document, for the errors of [5]."""

    def test_number_ahead_of_rules_ahead_of_endless(self):
        for rules in ((), ((0, "same", 0),), [LEAF], None):
            with self.assertRaises(InvalidNumber):
                Pairs(0, rules)
            with self.assertRaises(InvalidNumber):
                Pairs(True, rules)
        for rules in (((0, "same", 0), None), ((0, "same", 0), (0, "same", 2)), ((0, "same", 0),) * 91):
            with self.assertRaises(InvalidRules):
                Pairs(2, rules)

    def test_arguments_do_not_change(self):
        rules = [list(LEAF)]
        self.assertRaises(InvalidRules, Pairs, 1, rules)
        self.assertEqual(rules, [[0, "left", "a"]])


if __name__ == "__main__":
    unittest.main()
