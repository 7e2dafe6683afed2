import unittest

from grammars import EACH_SHAPE, ODD_VALUES, Row, is_plain
from groves import GROVE
from piles import PILE, drawn_stacks, fresh, keep
from treestacks.errors import InvalidRules
from treestacks.stacks import Stacks

LEAF = (0, -1, ())
A = ("word", "a")

# Right stack rules, with each bound in them.
RIGHT = (
    LEAF,
    (2, 199, ()),
    (1, 0, (A,)),
    (0, 5, (("word", "zzz"), fresh(2), keep(2))),
    (1, -1, (fresh(0, 0), fresh(2, 199), fresh(1, 0, 199), keep(0, 199, 0))),
    (2, 198, (keep(1, 7),)),
    (2, -1, (keep(0, 7, 7), A)),
    (0, 0, (A,) * 12),
    (0, 0, (fresh(0, 1, 1),) * 11 + (keep(1),)),
    (0, 0, (fresh(0, 1, 1),) * 11 + (keep(1),)),
)

WRONG_KINDS = (-1, 3, 4, 10 ** 12 - 1, True, False, None, "0", (), (0,), [0], 0.0, EACH_SHAPE, PILE)
WRONG_TOPS = (-2, 200, 201, 10 ** 12 - 1, True, False, None, "0", (), (0,), [0], 0.0, EACH_SHAPE, PILE)
WRONG_NUMBERS = (-2, -1, 200, 201, 10 ** 12 - 1, True, False, None, "0", (), (0,), [0], 0.0, EACH_SHAPE)
WRONG_WORDS = (
    "", "abcd", "A", "aB", "a1", "a b", " a", "a\n", "-", "\u00e9", "`", "{", "a" * 4000,
    0, True, None, ("a",), ["a"], b"a", (), EACH_SHAPE,
)
WRONG_PUSHED = (
    (0, 0, 0), (0,) * 30000, [0], [], [0, 0], 0, "", "a", None, True, {}, {0: 0}, EACH_SHAPE, ((0,),), ("0",),
)
WRONG_PARTS = (
    ("word",), ("word", "a", "a"), ("word", ("a",)), ["word", "a"], ("words", "a"), ("Word", "a"), ("a",), "word", "a",
    ("word", "a", ()), ("word", 0), ("fresh",), ("fresh", 0), ("fresh", ()), ("fresh", 0, (), ()), ["fresh", 0, ()],
    ("fresh", 0, 0), ("fresh", 0, 0, 0), ("fresh", (), 0), ("fresh", "a"), ("fresh", 0, "a"), ("Fresh", 0, ()),
    ("keep",), ("keep", 0), ("keep", ()), ("keep", 0, (), ()), ["keep", 0, ()], ("keep", 0, 0), ("keep", (), 0),
    ("keep", "a"), ("keeps", 0, ()), ("left", 0, ()), ("take", 0, ()), (0, "keep", ()), ("keep", (), ()),
    (), (None,), (True,), ((),), (A,), (b"word", "a"), (b"keep", 0, ()), (PILE,), PILE, *ODD_VALUES,
)


class TestStacks(unittest.TestCase):
    """[12] of the document, with [1], [2], [3] and [4]: what Stacks keeps."""

    def refused(self, rules):
        with self.assertRaises(InvalidRules) as caught:
            Stacks(rules)
        self.assertIs(type(caught.exception), InvalidRules)
        self.assertIs(caught.exception.value, rules)

    def refused_rule(self, rule):
        for rules in ((rule,), (LEAF, rule), (rule, LEAF), (LEAF,) * 1199 + (rule,)):
            self.refused(rules)

    def refused_part(self, part):
        for parts in ((part,), (A, part), (part, fresh(0)), (keep(0), part), (fresh(0),) * 11 + (part,)):
            self.refused_rule((0, -1, parts))

    def taken(self, rule):
        self.assertEqual(Stacks((LEAF, rule)).rules, (LEAF, rule))

    def test_it_keeps_its_rules(self):
        self.assertEqual(Stacks(RIGHT).rules, RIGHT)
        self.assertTrue(is_plain(Stacks(RIGHT).rules))
        self.assertEqual(Stacks(rules=RIGHT).rules, RIGHT)
        for rule in RIGHT:
            self.taken(rule)

    def test_what_is_kept_is_plain(self):
        def rows(value):
            return Row([rows(part) for part in value]) if isinstance(value, tuple) else value
        stacks = Stacks(rows(RIGHT))
        self.assertEqual(stacks.rules, RIGHT)
        self.assertTrue(is_plain(stacks.rules))
        self.assertEqual(stacks, Stacks(RIGHT))

    def test_equal_if_the_rules_are(self):
        self.assertTrue(Stacks(RIGHT) == Stacks(tuple(list(RIGHT))))
        self.assertFalse(Stacks(RIGHT) != Stacks(RIGHT))
        for rules in (RIGHT[:-1], RIGHT[1:], RIGHT[::-1], RIGHT + (LEAF,), (LEAF,)):
            self.assertFalse(Stacks(RIGHT) == Stacks(rules))
            self.assertTrue(Stacks(rules) != Stacks(RIGHT))

    def test_unequal_where_one_place_differs(self):
        one = (1, 3, (A, fresh(1, 3, 4), keep(1, 3, 4)))
        for other in (
            (0, 3, one[2]), (2, 3, one[2]), (1, -1, one[2]), (1, 4, one[2]), (1, 3, one[2][:2]), (1, 3, one[2][::-1]),
            (1, 3, (("word", "b"), *one[2][1:])), (1, 3, one[2] + (A,)),
            (1, 3, (A, fresh(2, 3, 4), one[2][2])), (1, 3, (A, fresh(1, 4, 4), one[2][2])),
            (1, 3, (A, fresh(1, 4, 3), one[2][2])), (1, 3, (A, fresh(1, 3), one[2][2])),
            (1, 3, (A, fresh(1, 3, 4), keep(0, 3, 4))), (1, 3, (A, fresh(1, 3, 4), keep(1, 3, 3))),
            (1, 3, (A, fresh(1, 3, 4), keep(1, 4, 3))), (1, 3, (A, fresh(1, 3, 4), keep(1))),
            (1, 3, (A, fresh(1, 3, 4), fresh(1, 3, 4))), (1, 3, (A, keep(1, 3, 4), fresh(1, 3, 4))),
        ):
            self.assertFalse(Stacks((one,)) == Stacks((other,)))
            self.assertTrue(Stacks((LEAF, one, LEAF)) != Stacks((LEAF, other, LEAF)))

    def test_equal_to_nothing_else(self):
        stacks = Stacks((LEAF,))
        for other in (0, (LEAF,), ((LEAF,),), [LEAF], None, True, "", object(), EACH_SHAPE, GROVE, Stacks):
            self.assertFalse(stacks == other)
            self.assertFalse(other == stacks)
            self.assertTrue(stacks != other)

    def test_not_iterable(self):
        stacks = Stacks(RIGHT)
        self.assertRaises(TypeError, iter, stacks)
        self.assertRaises(TypeError, list, stacks)
        with self.assertRaises(TypeError):
            LEAF in stacks

    def test_how_many_rules(self):
        for many in (1, 2, 1199, 1200):
            self.assertEqual(Stacks((LEAF,) * many).rules, (LEAF,) * many)
        for many in (0, 1201, 1202, 5000, 30000):
            self.refused((LEAF,) * many)

    def test_no_value_is_a_tuple_of_rules(self):
        for value in ODD_VALUES:
            self.refused(value)
            self.refused_rule(value)
        for value in ([LEAF], [list(LEAF)], {LEAF: 1}, LEAF, ((LEAF,),), PILE, (PILE,), PILE.rules + (PILE,)):
            self.refused(value)

    def test_rules_too_short_and_too_long(self):
        for rule in RIGHT:
            for wrong in (rule[:2], rule[:1], rule[1:], (), rule + ((),), rule + (0,), (rule,), list(rule),
                          (rule[0], rule[1], list(rule[2])), (rule[2], rule[0], rule[1]), (*rule[:2], *rule[2])):
                if wrong not in RIGHT:
                    self.refused_rule(wrong)

    def test_kinds(self):
        for kind in (0, 1, 2):
            self.taken((kind, -1, (fresh(kind), keep(kind))))
        for wrong in WRONG_KINDS:
            self.refused_rule((wrong, -1, ()))
            self.refused_rule((wrong, 0, (A,)))
            self.refused_part(("fresh", wrong, ()))
            self.refused_rule((0, -1, (A, ("keep", wrong, ()))))

    def test_tops(self):
        for top in (-1, 0, 1, 198, 199):
            self.taken((0, top, ()))
        for wrong in WRONG_TOPS:
            self.refused_rule((0, wrong, ()))
            self.refused_rule((2, wrong, (keep(0),)))

    def test_how_many_parts(self):
        for many in range(13):
            self.taken((0, -1, (A,) * many))
            self.taken((0, -1, (fresh(1, 1),) * many))
        for many in (13, 14, 30000):
            self.refused_rule((0, -1, (A,) * many))
            self.refused_rule((0, -1, (fresh(0),) * (many - 1) + (keep(0),)))

    def test_no_value_is_the_tuple_of_parts(self):
        for value in ODD_VALUES:
            self.refused_rule((0, -1, value))
        for value in ([], [A], A, fresh(0), keep(0), {}, {A: 1}, "word", 0, ((A,),)):
            self.refused_rule((0, -1, value))

    def test_words(self):
        for right in ("a", "z", "ab", "zzz", "abc"):
            self.taken((0, -1, (("word", right),)))
        for wrong in WRONG_WORDS:
            self.refused_part(("word", wrong))

    def test_no_value_is_a_part(self):
        for value in WRONG_PARTS:
            self.refused_part(value)

    def test_stacks_and_pushes(self):
        for right in ((), (0,), (199,), (0, 0), (199, 199), (7, 8)):
            for part in (("fresh", 1, right), ("keep", 1, right)):
                self.taken((0, -1, (part,)))
        for wrong in WRONG_PUSHED + tuple((number,) for number in WRONG_NUMBERS):
            self.refused_part(("fresh", 0, wrong))
            self.refused_rule((0, -1, (A, ("keep", 0, wrong))))
        for number in WRONG_NUMBERS:
            for row in ((0, number), (number, 0), (number, number)):
                self.refused_part(("fresh", 0, row))
                self.refused_rule((0, -1, (("keep", 0, row),)))

    def test_two_parts_keep(self):
        for parts in ((keep(0), keep(0)), (keep(0, 1), A, keep(1)), (fresh(0), keep(2), keep(1, 2)),
                      (keep(0),) * 12, (keep(0), *[fresh(0)] * 10, keep(0))):
            self.refused_rule((0, -1, parts))
        self.taken((0, -1, (fresh(0), keep(0), fresh(0))))

    def test_drawn_ones(self):
        for seed in range(50):
            stacks = drawn_stacks(seed, 4 + seed)
            self.assertEqual(len(stacks.rules), 4 + seed)
            self.assertEqual(Stacks(stacks.rules), stacks)

    def test_arguments_do_not_change(self):
        rules = [[0, -1, []]]
        self.refused(rules)
        self.assertEqual(rules, [[0, -1, []]])


if __name__ == "__main__":
    unittest.main()
