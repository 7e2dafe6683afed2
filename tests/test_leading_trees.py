import unittest

from grammars import EACH_SHAPE, ODD_VALUES, Row, alike, all_of_kinds, is_plain, nested
from groves import (
    AB, C, FOOT, GROVE, GROVE_READINGS, XAB, all_tree_readings, drawn_trees, graft, plain, shape_of_reading,
    shape_of_tree, text_given, within, word, words_given,
)
from treestacks.errors import InvalidReading, Undefined
from treestacks.leading import pairs_of, reading_of_tree, tree_of_reading
from treestacks.pairs import Pairs, kind_of, pair_of, text_of
from treestacks.trees import Trees, tree_text

A, B, D, E = ("left", "a"), ("left", "b"), ("left", "d"), ("left", "e")

# Outermost knots, and what the document makes of them: kinds stand for grafts.
FORMS = (
    (plain(word("a"), FOOT), ("first", A)),
    (plain(FOOT, word("a")), ("last", A)),
    (plain(word("a"), word("b"), FOOT), ("ahead", ("first", B), A)),
    (plain(FOOT, word("a"), word("b")), ("behind", ("last", A), B)),
    (plain(word("a"), FOOT, word("b")), ("behind", ("first", A), B)),
    (plain(word("a"), word("b"), FOOT, word("d"), word("e")),
     ("behind", ("behind", ("ahead", ("first", B), A), D), E)),
    (plain(word("a"), word("a"), FOOT, word("a")), ("behind", ("ahead", ("first", A), A), A)),
    # A tree that is nothing but a graft's kind.
    (graft(1, FOOT), ("same", 1)),
    (plain(graft(1, FOOT)), ("same", 1)),
    (plain(plain(), graft(1, plain(plain(FOOT)), plain()), plain(plain())), ("same", 1)),
    # Rows with nothing but the foot, and empty plain knots.
    (plain(plain(plain(FOOT)), word("a")), ("last", A)),
    (plain(plain(), plain(word("a")), plain(plain()), plain(FOOT, plain()), plain()), ("first", A)),
    (graft(1, plain(plain(), FOOT), word("a")), ("wrap", 1, ("last", A))),
    # Plain knots within plain knots: put together first, as one member.
    (plain(plain(word("a"), word("b")), FOOT), ("first", ("behind", A, B))),
    (plain(FOOT, plain(word("a"), word("b")), word("d")), ("behind", ("last", ("behind", A, B)), D)),
    (plain(plain(word("a"), plain(word("b"), word("d"))), FOOT), ("first", ("behind", A, ("behind", B, D)))),
    (plain(plain(word("a"), word("b"), word("d")), FOOT), ("first", ("behind", ("behind", A, B), D))),
    (plain(word("a"), plain(word("b"), FOOT)), ("ahead", ("first", B), A)),
    (plain(word("a"), plain(FOOT, word("b"))), ("ahead", ("last", B), A)),
    (plain(plain(FOOT, word("a")), word("b")), ("behind", ("last", A), B)),
    (plain(word("a"), plain(word("b"), FOOT, word("d")), word("e")),
     ("behind", ("ahead", ("behind", ("first", B), D), A), E)),
    # Grafts without the foot in them.
    (plain(graft(1), FOOT), ("first", 1)),
    (plain(FOOT, graft(1)), ("last", 1)),
    (plain(FOOT, graft(1, plain(), plain(plain()))), ("last", 1)),
    (plain(graft(1, word("a")), FOOT), ("first", ("wrap", 1, A))),
    (plain(graft(1, word("a"), plain(), word("b")), FOOT), ("first", ("wrap", 1, ("behind", A, B)))),
    (plain(graft(1, graft(2)), FOOT), ("first", ("wrap", 1, 2))),
    (plain(graft(1, graft(2, word("a")), word("b")), FOOT), ("first", ("wrap", 1, ("behind", ("wrap", 2, A), B)))),
    (plain(graft(1), graft(2), FOOT), ("ahead", ("first", 2), 1)),
    (plain(FOOT, graft(1), graft(2)), ("behind", ("last", 1), 2)),
    (plain(graft(1), FOOT, graft(2)), ("behind", ("first", 1), 2)),
    (plain(plain(graft(1), graft(2)), FOOT), ("first", ("behind", 1, 2))),
    (plain(plain(word("a"), graft(2), word("b")), FOOT), ("first", ("behind", ("behind", A, 2), B))),
    # Grafts with the foot in them.
    (graft(1, word("a"), FOOT), ("wrap", 1, ("first", A))),
    (graft(1, word("a"), FOOT, word("b")), ("wrap", 1, ("behind", ("first", A), B))),
    (graft(1, graft(2, FOOT)), ("wrap", 1, 2)),
    (graft(1, graft(2, graft(0, FOOT))), ("wrap", 1, ("wrap", 2, 0))),
    (graft(1, graft(2), FOOT), ("wrap", 1, ("first", 2))),
    (graft(1, FOOT, graft(2, word("a"))), ("wrap", 1, ("last", ("wrap", 2, A)))),
    (plain(word("a"), graft(1, FOOT)), ("ahead", 1, A)),
    (plain(graft(1, FOOT), word("a")), ("behind", 1, A)),
    (plain(graft(2), graft(1, FOOT)), ("ahead", 1, 2)),
    (plain(graft(1, FOOT), graft(2)), ("behind", 1, 2)),
    (plain(word("a"), graft(1, word("b"), FOOT), word("d")), ("behind", ("ahead", ("wrap", 1, ("first", B)), A), D)),
    (graft(1, graft(2), word("a"), plain(word("b"), graft(0)), FOOT),
     ("wrap", 1, ("ahead", ("ahead", ("first", ("behind", B, 0)), A), 2))),
)

SIDES = Trees(3, (
    (0, plain(word("a"), FOOT)), (0, graft(0, graft(0, FOOT))), (0, plain(graft(0), graft(0, FOOT))),
    (1, graft(0, FOOT)), (2, graft(1, FOOT)),
))


def formed(pairs, kinds, number):
    """What the rule of this number is, with those of kinds behind those of trees in it, as in FORMS."""
    shape, *parts = pairs.rules[number][1:]
    if shape == "left":
        return (shape, parts[0])
    made = []
    for kind in parts:
        own = [at for at, rule in enumerate(pairs.rules) if rule[0] == kind]
        made.append(kind if kind < kinds else formed(pairs, kinds, own[0]))
    return (shape, *made)


def form_of(shape):
    """A shape of groves as in FORMS."""
    if shape[0] == "graft":
        return shape[2]
    return (shape[0], *[one if isinstance(one, str) else form_of(one) for one in shape[1:]])


def steps_in(form):
    """How many rules a form needs."""
    return 0 if isinstance(form, int) else 1 + sum(steps_in(one) for one in form[1:] if not isinstance(one, str))


def read_form(pairs, reading):
    """What a reading looks like: shapes and words instead of numbers."""
    rule = pairs.rules[reading[0]]
    return rule[1:] if rule[1] in ("left", "right") else (rule[1], *[read_form(pairs, part) for part in reading[1:]])


def tower(many, side):
    """A tree reading of kind 0 of SIDES of so many trees, an odd number, as deep as can be."""
    reading = (0, ())
    for _ in range(many // 2):
        reading = (1, (reading, (0, ())) if side == 0 else ((0, ()), reading))
    return reading


class TestPairsOf(unittest.TestCase):
    """[11] of the document: pairs_of."""

    def agrees(self, trees, forms):
        """Whether pairs_of tells just the rules that the forms of the trees need, each part where it is due."""
        pairs = pairs_of(trees)
        self.assertIsInstance(pairs, Pairs)
        self.assertTrue(is_plain(pairs.rules))
        many = sum(steps_in(form) for form in forms)
        self.assertEqual(len(pairs.rules), many)
        self.assertEqual(pairs.kinds, trees.kinds + many - len(forms))
        own = range(trees.kinds, pairs.kinds)
        # Each kind behind those of trees has one rule, and stands in one.
        self.assertEqual(sorted(rule[0] for rule in pairs.rules if rule[0] in own), list(own))
        parts = [kind for rule in pairs.rules if rule[1] != "left" for kind in rule[2:]]
        self.assertEqual(sorted(kind for kind in parts if kind in own), list(own))
        due = [(kind, form) for (kind, _), form in zip(trees.trees, forms)]
        told = [(rule[0], formed(pairs, trees.kinds, at)) for at, rule in enumerate(pairs.rules) if rule[0] not in own]
        self.assertEqual(sorted(told, key=repr), sorted(due, key=repr))

    def test_each_form(self):
        for knot, form in FORMS:
            with self.subTest(knot=knot):
                self.agrees(Trees(4, ((3, knot),)), [form])
                self.agrees(Trees(8, ((3, knot),)), [form])

    def test_the_slow_way_tells_each_form(self):
        for knot, form in FORMS:
            self.assertEqual(form_of(shape_of_tree((3, knot))), form)

    def test_more_trees(self):
        for at in range(len(FORMS) - 2):
            chosen = FORMS[at:at + 3]
            self.agrees(Trees(4, tuple((3, knot) for knot, _ in chosen)), [form for _, form in chosen])
        leaf = (0, FORMS[0][0])
        self.agrees(Trees(1, (leaf,) * 9), [FORMS[0][1]] * 9)

    def test_kinds_of_trees(self):
        trees = Trees(3, ((2, plain(word("a"), FOOT)), (0, plain(word("a"), FOOT)), (1, graft(2, FOOT))))
        self.agrees(trees, [("first", A), ("first", A), ("same", 2)])

    def test_drawn_ones(self):
        many = 0
        for seed in range(200):
            trees = drawn_trees(seed, 1 + seed % 8, 1 + seed % 4, ("a", "b"), 3 + seed % 10)
            forms = [form_of(shape_of_tree(tree)) for tree in trees.trees]
            if trees.kinds + sum(map(steps_in, forms)) - len(forms) <= 40:
                self.agrees(trees, forms)
                many += 1
        self.assertGreater(many, 150)

    def test_arguments_by_name(self):
        self.assertEqual(pairs_of(trees=GROVE), pairs_of(GROVE))
        reading = reading_of_tree(reading=XAB, trees=GROVE)
        self.assertEqual(reading, reading_of_tree(GROVE, XAB))
        self.assertEqual(tree_of_reading(reading=reading, trees=GROVE), XAB)

    def test_equal_calls_return_equal_results(self):
        again = Trees(GROVE.kinds, tuple(list(GROVE.trees)))
        self.assertEqual(pairs_of(again), pairs_of(GROVE))
        for reading, _, _ in GROVE_READINGS:
            self.assertEqual(reading_of_tree(again, reading), reading_of_tree(GROVE, reading))

    def test_40_kinds(self):
        ten = plain(FOOT, *[word("a")] * 10)
        leaf = plain(FOOT, word("a"))
        step = graft(0, FOOT)
        for kinds, knots in ((2, (ten, ten)), (1, (ten, ten, leaf)), (1, (leaf, ten, ten)), (2, (ten, ten, step))):
            trees = Trees(kinds, tuple((kinds - 1, knot) for knot in knots))
            self.assertEqual(pairs_of(trees).kinds, 40)
            self.assertEqual(tree_of_reading(trees, reading_of_tree(trees, (0, ()))), (0, ()))

    def test_41_kinds_and_more(self):
        ten = plain(FOOT, *[word("a")] * 10)
        leaf = plain(FOOT, word("a"))
        for kinds, knots in ((3, (ten, ten)), (1, (ten, ten, leaf, leaf)), (2, (leaf, ten, ten)), (1, (ten,) * 9),
                             (8, (ten,) * 9)):
            trees = Trees(kinds, tuple((0, knot) for knot in knots))
            calls = [(pairs_of, ())] + [
                (function, (reading,)) for function in (reading_of_tree, tree_of_reading)
                for reading in ((0, ()), (0,), (99,), None, [0], (True, ()))
            ]
            for function, rest in calls:
                with self.assertRaises(Undefined) as caught:
                    function(trees, *rest)
                self.assertEqual(caught.exception.what, "size")

    def test_steps_that_come_back_by_no_words(self):
        # Only a tree without words that has just one graft makes a step; such pairs are not Endless either.
        for knot in (graft(0, graft(1, FOOT)), graft(0, FOOT, graft(1)), graft(1, plain(graft(0), graft(1)), FOOT),
                     plain(graft(0), FOOT, graft(0)), graft(0, word("a"), FOOT), plain(graft(0, word("a")), FOOT)):
            pairs_of(Trees(2, ((0, knot), (1, knot), (0, graft(1, FOOT)))))


class TestThereAndBack(unittest.TestCase):
    """[11] of the document: reading_of_tree and tree_of_reading, and so (4) of its overview."""

    def refused(self, function, trees, reading):
        with self.assertRaises(InvalidReading) as caught:
            function(trees, reading)
        self.assertIs(caught.exception.value, reading)

    def led(self, trees, reading):
        """The reading to which reading is led, which is looked at from all sides."""
        pairs = pairs_of(trees)
        there = reading_of_tree(trees, reading)
        self.assertTrue(is_plain(there))
        self.assertEqual(read_form(pairs, there), shape_of_reading(trees, reading))
        self.assertEqual(kind_of(pairs, there), trees.trees[reading[0]][0])
        self.assertEqual(text_of(pairs, there), tree_text(trees, reading))
        words = words_given(trees, reading)
        gap = words.index("_")
        self.assertEqual(pair_of(pairs, there), (words[:gap], words[gap + 1:]))
        self.assertEqual(tree_of_reading(trees, there), reading)
        self.assertTrue(is_plain(tree_of_reading(trees, there)))
        return there

    def test_of_any_kind(self):
        for reading, _, _ in GROVE_READINGS:
            self.led(GROVE, reading)

    def test_each_form(self):
        leaves = tuple((kind, plain(word(one), FOOT, word(one))) for kind, one in enumerate("xyz"))
        for knot, _ in FORMS:
            trees = Trees(4, ((3, knot), *leaves))
            parts = tuple((1 + one[1], ()) for one in within(knot) if one[0] == "graft")
            self.led(trees, (0, parts))

    def test_grafts_of_one_kind_are_told_apart(self):
        leaves = tuple((0, plain(FOOT, word(one))) for one in "xyz")
        for knot in (plain(graft(0), graft(0), graft(0, FOOT)), graft(0, graft(0), plain(graft(0), FOOT)),
                     plain(graft(0, graft(0), word("a")), graft(0, FOOT)), graft(0, graft(0, graft(0, FOOT))),
                     plain(plain(graft(0), graft(0)), plain(FOOT, graft(0))), plain(graft(0, FOOT, graft(0)), graft(0))):
            trees = Trees(2, (*leaves, (1, knot)))
            led = [self.led(trees, (3, ((x, ()), (y, ()), (z, ())))) for x in range(3) for y in range(3) for z in range(3)]
            self.assertEqual(len(set(led)), 27)

    def test_drawn_ones(self):
        many = 0
        for seed in range(150):
            trees = drawn_trees(seed, 1 + seed % 4, 2 + seed % 5, ("a", "b"), 3 + seed % 8)
            try:
                pairs = pairs_of(trees)
            except Undefined:
                continue
            known = all_of_kinds(pairs, 3)
            for kind, readings in enumerate(all_tree_readings(trees, 3)):
                led = {self.led(trees, reading): words for reading, words in readings.items()}
                # Unlike ones are led to unlike ones, and each reading of a kind of trees comes from one.
                self.assertEqual(len(led), len(readings))
                self.assertEqual(set(led), {reading for reading, _ in known[kind]})
                self.assertTrue(all(text_of(pairs, reading) == text_given(words) for reading, words in led.items()))
                many += len(led)
        self.assertGreater(many, 500)

    def test_equal_trees(self):
        leaf = plain(word("a"), FOOT)
        trees = Trees(2, ((0, leaf), (1, leaf), (0, leaf), (0, graft(1, FOOT)), (0, graft(1, FOOT))))
        readings = ((0, ()), (2, ()), (3, ((1, ()),)), (4, ((1, ()),)), (1, ()))
        self.assertEqual(len({self.led(trees, reading) for reading in readings}), 5)

    def test_tuples_of_a_class(self):
        def rows(value):
            return Row([rows(part) for part in value]) if isinstance(value, tuple) else value
        for reading, _, _ in GROVE_READINGS:
            there = reading_of_tree(GROVE, rows(reading))
            self.assertEqual(there, self.led(GROVE, reading))
            self.assertTrue(is_plain((there, tree_of_reading(GROVE, rows(there)))))
            self.assertEqual(tree_of_reading(GROVE, rows(there)), reading)

    def test_what_is_no_tree_reading(self):
        for value in ODD_VALUES:
            self.refused(reading_of_tree, GROVE, value)
            self.refused(reading_of_tree, GROVE, (0, (value,)))
        for reading, _, _ in GROVE_READINGS:
            number, parts = reading
            for wrong in (list(reading), (number, list(parts)), (number,), (number, parts, ()), (number, parts + (AB,)),
                          (6, parts), (-1, parts), (None, parts), (number, (C,) + parts), (number, (parts,))):
                self.refused(reading_of_tree, GROVE, wrong)
            self.refused(reading_of_tree, GROVE, reading_of_tree(GROVE, reading))
        for wrong in ((False, (AB,)), (True, (AB, C, C)), (0, (C,)), (1, (AB, C, AB)), (0, ([2, ()],)), (5, (AB,))):
            self.refused(reading_of_tree, GROVE, wrong)

    def test_readings_of_other_kinds(self):
        pairs = pairs_of(GROVE)
        many = 0
        for kind, readings in enumerate(all_of_kinds(pairs, 3)):
            for reading, _ in readings:
                if kind >= GROVE.kinds:
                    self.refused(tree_of_reading, GROVE, reading)
                    many += 1
                else:
                    self.assertEqual(reading_of_tree(GROVE, tree_of_reading(GROVE, reading)), reading)
        self.assertGreater(many, 12)

    def test_what_is_no_reading(self):
        pairs = pairs_of(GROVE)
        many = len(pairs.rules)
        for value in ODD_VALUES:
            self.refused(tree_of_reading, GROVE, value)
        for tree_reading, _, _ in GROVE_READINGS:
            self.refused(tree_of_reading, GROVE, tree_reading)
            reading = reading_of_tree(GROVE, tree_reading)
            for wrong in (list(reading), reading[:-1], reading + (0,), reading + ((),), (many,) + reading[1:],
                          (-1,) + reading[1:], (None,) + reading[1:], (reading,), (reading[0], *reading)):
                self.refused(tree_of_reading, GROVE, wrong)
            for at in range(1, len(reading)):
                for value in (None, [], (), reading, list(reading[at]), reading[at][:-1], (True,), reading[at] + (0,)):
                    self.refused(tree_of_reading, GROVE, reading[:at] + (value,) + reading[at + 1:])
        self.refused(tree_of_reading, GROVE, EACH_SHAPE)
        self.refused(tree_of_reading, GROVE, GROVE)

    def test_bools_are_no_numbers(self):
        trees = Trees(1, ((0, plain(word("a"), FOOT)), (0, plain(FOOT, word("b")))))
        for number in (0, 1):
            reading = reading_of_tree(trees, (number, ()))
            self.assertEqual(tree_of_reading(trees, reading), (number, ()))
            wrongs = [(one, *reading[1:]) for one in (True, False)] + [(reading[0], (True,)), (reading[0], (False,))]
            for wrong in wrongs:
                self.refused(tree_of_reading, trees, wrong)
            self.refused(reading_of_tree, trees, (number == 1, ()))

    def test_20_trees(self):
        for side in (0, 1):
            self.led(SIDES, tower(19, side))
            self.led(SIDES, (3, (tower(19, side),)))
        twelve = Trees(1, ((0, plain(FOOT, *[word("a")] * 10)), (0, graft(0, graft(0, FOOT)))))
        reading = (0, ())
        for _ in range(9):
            reading = (1, (reading, (0, ())))
        self.led(twelve, reading)

    def test_21_trees_and_more(self):
        for side in (0, 1):
            for many in (21, 23, 599, 601, 5001):
                self.refused(reading_of_tree, SIDES, tower(many, side))
            self.refused(reading_of_tree, SIDES, (4, ((3, (tower(19, side),)),)))
        reading = (0, ())
        for _ in range(28):
            reading = (1, (reading, reading))
        self.refused(reading_of_tree, SIDES, reading)

    def test_600_rules_and_601(self):
        numbers = [reading_of_tree(SIDES, (0, ()))]
        wrap = reading_of_tree(SIDES, (1, ((0, ()), (0, ()))))[0]
        first, second = [reading_of_tree(SIDES, one)[0] for one in ((3, ((0, ()),)), (4, ((3, ((0, ()),)),)))]
        for side in (0, 1):
            reading, due = numbers[0], (0, ())
            for _ in range(199):
                reading = (wrap, reading, numbers[0]) if side == 0 else (wrap, numbers[0], reading)
                due = (1, (due, (0, ()))) if side == 0 else (1, ((0, ()), due))
            # 2 rules at the end, 3 for each wrap.
            self.assertTrue(alike(tree_of_reading(SIDES, reading), due))
            self.assertTrue(alike(tree_of_reading(SIDES, (first, reading)), (3, (due,))))
            self.assertEqual(tree_text(SIDES, due), text_of(pairs_of(SIDES), reading))
            self.refused(tree_of_reading, SIDES, (second, (first, reading)))
            self.refused(tree_of_reading, SIDES, (wrap, reading, numbers[0]))

    def test_parts_in_another_order_than_grafts(self):
        trees = Trees(2, ((0, plain(graft(0), graft(1, FOOT))), (1, graft(0, FOOT)), (0, graft(1, graft(0, FOOT))),
                          (0, plain(word("a"), FOOT))))
        one = reading_of_tree(trees, (3, ()))
        step = reading_of_tree(trees, (1, ((3, ()),)))[0]
        ahead = reading_of_tree(trees, (0, ((3, ()), (1, ((3, ()),)))))[0]
        reading, due = one, (3, ())
        for _ in range(149):
            reading, due = (ahead, (step, reading), one), (0, ((3, ()), (1, (due,))))
        self.assertTrue(alike(tree_of_reading(trees, reading), due))
        self.assertTrue(alike(tree_of_reading(trees, (step, reading)), (1, (due,))))
        self.refused(tree_of_reading, trees, (ahead, (step, reading), one))

    def test_deep_values(self):
        for function in (reading_of_tree, tree_of_reading):
            self.refused(function, SIDES, nested(5000))
            for wrong in (None, (True, ()), (True,), (9, ()), (9,)):
                reading = wrong
                for _ in range(17):
                    reading = (3, (reading,)) if function is reading_of_tree else (1, (0, (5,)), reading)
                self.refused(function, SIDES, reading)

    def test_large_values(self):
        self.refused(reading_of_tree, SIDES, (1, ((0, ()),) * 9000))
        self.refused(tree_of_reading, SIDES, (1,) + ((0,),) * 9000)


if __name__ == "__main__":
    unittest.main()
