import unittest

from grammars import EACH_SHAPE, ODD_VALUES, Row, alike, is_plain, nested
from groves import (
    AB, C, FOOT, GROVE, GROVE_READINGS, XAB, all_tree_readings, drawn_trees, graft, plain, text_given, within, word,
)
from piles import PILE, SlowRuns, all_runs, rules_in, slow_text
from treestacks.errors import InvalidReading, InvalidRun
from treestacks.runs import reading_of_run, run_of, stacks_of
from treestacks.stacks import run_text
from treestacks.trees import Trees, tree_text

OF_KIND_0 = [reading for reading, kind, _ in GROVE_READINGS if kind == 0]

# Readings and runs may be as deep as is asked for: tree 1 puts one tree into another one.
DEEP = Trees(2, (
    (0, plain(word("a"), FOOT)),
    (0, graft(0, graft(0, FOOT))),
    (0, plain(graft(0), word("b"), FOOT)),
    (1, graft(0, FOOT)),
    (0, plain(graft(0, word("c")), FOOT, word("d"))),
))
LARGEST = Trees(1, (
    (0, graft(0, plain(plain(plain(plain(plain(plain(plain(plain(plain(FOOT), word("a"))))))))))),
    (0, plain(FOOT, *[plain()] * 9, word("b"))),
))

# Tree 2 has a plain knot with nothing in it, for which a run has two rules more.
ROW = Trees(1, (
    (0, plain(FOOT, word("a"))), (0, plain(graft(0), FOOT, word("b"))), (0, plain(graft(0), plain(), FOOT, word("b"))),
))

# Trees whose runs the slow way tells within a second, to so many rules: with grafts of each form.
SMALL = (
    Trees(1, ((0, plain(word("a"), FOOT)), (0, graft(0, graft(0, FOOT))))),
    Trees(1, ((0, plain(FOOT, word("a"))), (0, plain(graft(0), word("b"), FOOT)))),
    Trees(2, ((0, graft(1, FOOT)), (1, plain(word("a"), FOOT, word("b"))), (1, graft(1, graft(1, word("a")), FOOT)))),
    Trees(2, ((0, plain(FOOT, graft(1, plain()), plain())), (1, plain(FOOT, word("a"))), (1, graft(1, FOOT, graft(1))))),
    Trees(1, ((0, plain(FOOT, word("a"))), (0, plain(FOOT, word("a"))), (0, graft(0, plain(FOOT), graft(0))))),
)


def tower(many, side):
    """A tree reading of kind 0 of DEEP of so many trees, as deep as can be: 2 by each, or 1 by each of tree 2."""
    reading = (0, ())
    if side == 2:
        for _ in range(many - 1):
            reading = (2, (reading,))
        return reading
    for _ in range(many // 2):
        reading = (1, (reading, (0, ())) if side == 0 else ((0, ()), reading))
    return reading


def many_rules(run):
    """How many rules a run has, however deep it is."""
    many = 0
    waiting = [run]
    while waiting:
        many += 1
        waiting += waiting.pop()[1]
    return many


class TestThereAndBack(unittest.TestCase):
    """[13] of the document: run_of and reading_of_run, and so (5) of its overview; with [1], [2] and [4]."""

    def no_reading(self, trees, reading):
        with self.assertRaises(InvalidReading) as caught:
            run_of(trees, reading)
        self.assertIs(type(caught.exception), InvalidReading)
        self.assertIs(caught.exception.value, reading)

    def no_run(self, trees, run):
        with self.assertRaises(InvalidRun) as caught:
            reading_of_run(trees, run)
        self.assertIs(type(caught.exception), InvalidRun)
        self.assertIs(caught.exception.value, run)

    def led(self, trees, reading):
        """The run to which reading is led, which is looked at from all sides."""
        run = run_of(trees, reading)
        self.assertTrue(is_plain(run))
        self.assertTrue(alike(run, SlowRuns(trees).run(reading)))
        self.assertEqual(run_text(stacks_of(trees), run), tree_text(trees, reading))
        back = reading_of_run(trees, run)
        self.assertTrue(alike(back, reading))
        self.assertTrue(is_plain(back))
        return run

    def test_a_told_one(self):
        # Numbers of knots: 1 plain, 2 its foot; 3 graft, 4 its foot.
        trees = Trees(2, ((1, plain(word("a"), FOOT)), (0, graft(1, FOOT))))
        self.assertEqual(stacks_of(trees).rules, (
            (0, -1, (("fresh", 1, (3,)),)),
            (1, 1, (("keep", 2, (1,)),)), (2, 1, (("word", "a"), ("keep", 1, (2,)))), (1, 2, ()),
            (1, 2, (("keep", 2, ()),)),
            (1, 3, (("keep", 1, (3, 1)),)), (2, 3, (("keep", 1, (4,)),)), (1, 4, ()), (1, 4, (("keep", 2, ()),)),
        ))
        run = (0, ((5, ((1, ((2, ((4, ((6, ((7, ()),)),)),)),)),)),))
        self.assertEqual(run_of(trees, (1, ((0, ()),))), run)
        self.assertEqual(reading_of_run(trees, run), (1, ((0, ()),)))
        self.led(trees, (1, ((0, ()),)))

    def test_arguments_by_name_and_equal_calls(self):
        again = Trees(GROVE.kinds, tuple(list(GROVE.trees)))
        run = run_of(reading=XAB, trees=GROVE)
        self.assertEqual(run, run_of(again, (0, ((2, ()),))))
        self.assertEqual(reading_of_run(run=run, trees=GROVE), XAB)
        self.assertEqual(reading_of_run(again, run), XAB)

    def test_some_of_the_grove(self):
        self.assertEqual(len({self.led(GROVE, reading) for reading in OF_KIND_0}), len(OF_KIND_0))

    def test_each_form(self):
        leaves = tuple((kind, plain(word(one), FOOT, word(one))) for kind, one in enumerate("xyz"))
        for knot in (
            plain(word("a"), FOOT), plain(FOOT, word("a")), plain(plain(), plain(plain(FOOT), word("a")), plain(plain())),
            plain(graft(1), FOOT), plain(FOOT, graft(1, plain(), plain(plain()))), graft(1, FOOT),
            graft(1, plain(plain(FOOT))), graft(1, word("a"), FOOT, word("b")), plain(word("a"), graft(1, FOOT), word("b")),
            plain(graft(1, graft(2, graft(0))), FOOT), graft(1, graft(2, graft(0, FOOT))), graft(1, graft(2), FOOT, graft(0)),
            plain(graft(1, word("a"), graft(2)), graft(0, FOOT), graft(2, word("b"), word("a"))),
            plain(plain(graft(0), graft(1, word("a"))), plain(graft(2, FOOT, graft(1))), graft(0)),
        ):
            trees = Trees(4, ((0, plain(graft(3, word("w")), FOOT)), (0, graft(3, FOOT)), *leaves, (3, knot)))
            parts = tuple((2 + one[1], ()) for one in within(knot) if one[0] == "graft")
            runs = [self.led(trees, (number, ((5, parts),))) for number in (0, 1)]
            self.assertNotEqual(*runs)

    def test_grafts_of_one_kind_are_told_apart(self):
        leaves = tuple((0, plain(FOOT, word(one))) for one in "xyz")
        for knot in (plain(graft(0), graft(0), graft(0, FOOT)), graft(0, graft(0), plain(graft(0), FOOT)),
                     plain(graft(0, graft(0), word("a")), graft(0, FOOT)), graft(0, graft(0, graft(0, FOOT))),
                     plain(plain(graft(0), graft(0)), plain(FOOT, graft(0))), plain(graft(0, FOOT, graft(0)), graft(0))):
            trees = Trees(1, (*leaves, (0, knot)))
            led = [self.led(trees, (3, ((x, ()), (y, ()), (z, ())))) for x in range(3) for y in range(3) for z in range(3)]
            self.assertEqual(len(set(led)), 27)

    def test_equal_trees(self):
        leaf = plain(word("a"), FOOT)
        trees = Trees(2, ((0, leaf), (1, leaf), (0, leaf), (0, graft(1, FOOT)), (0, graft(1, FOOT)), (1, leaf)))
        readings = [(0, ()), (2, ())] + [(number, ((inner, ()),)) for number in (3, 4) for inner in (1, 5)]
        self.assertEqual(len({self.led(trees, reading) for reading in readings}), 6)

    def test_drawn_ones(self):
        many = 0
        for seed in range(150):
            trees = drawn_trees(seed, 1 + seed % 4, 2 + seed % 5, ("a", "b"), 3 + seed % 9)
            readings = all_tree_readings(trees, 3)[0]
            chosen = [reading for reading in list(readings)[:60] if len(str(reading)) < 200]
            runs = {self.led(trees, reading): text_given(readings[reading]) for reading in chosen}
            self.assertEqual(len(runs), len(chosen))
            self.assertTrue(all(slow_text(stacks_of(trees), run) == text for run, text in runs.items()))
            many += len(runs)
        self.assertGreater(many, 400)

    def each_run_from_one_reading(self, trees, size, most):
        """How many runs there are of at most so many rules and words, if each comes from just one tree reading."""
        due = {run_of(trees, reading): text_given(words) for reading, words in all_tree_readings(trees, most)[0].items()}
        runs = all_runs(stacks_of(trees), size, most)
        self.assertEqual(runs, {run: text for run, text in due.items() if rules_in(run) <= size})
        for run in runs:
            reading = reading_of_run(trees, run)
            self.assertEqual(tree_text(trees, reading), runs[run])
            self.assertEqual(run_of(trees, reading), run)
        return len(runs)

    def test_each_run_comes_from_just_one_reading(self):
        for trees, most, many in zip(SMALL, (4, 4, 5, 4, 3), (9, 4, 2, 9, 22)):
            self.assertEqual(self.each_run_from_one_reading(trees, 38, most), many)

    def test_each_run_of_drawn_trees_comes_from_just_one_reading(self):
        many = 0
        for seed in range(100):
            trees = drawn_trees(seed, 1 + seed % 3, 2 + seed % 4, ("a", "b"), 3 + seed % 5)
            many += self.each_run_from_one_reading(trees, 22, 3)
        self.assertGreater(many, 250)

    def test_tuples_of_a_class(self):
        def rows(value):
            return Row([rows(part) for part in value]) if isinstance(value, tuple) else value
        for reading in OF_KIND_0:
            run = run_of(GROVE, rows(reading))
            self.assertTrue(alike(run, run_of(GROVE, reading)))
            self.assertTrue(is_plain(run))
            back = reading_of_run(GROVE, rows(run))
            self.assertEqual(back, reading)
            self.assertTrue(is_plain(back))

    def test_readings_of_other_kinds(self):
        for reading in (AB, C, (4, (AB,))):
            self.assertGreater(len(tree_text(GROVE, reading)), 0)
            self.no_reading(GROVE, reading)
        no_start = Trees(2, ((1, plain(FOOT, word("a"))),))
        self.no_reading(no_start, (0, ()))
        self.no_run(no_start, (0, ()))
        self.no_run(no_start, (0, ((1, ((2, ()),)),)))

    def test_what_is_no_tree_reading(self):
        for value in ODD_VALUES:
            self.no_reading(GROVE, value)
            self.no_reading(GROVE, (0, (value,)))
            self.no_reading(GROVE, (1, (AB, value, C)))
            self.no_reading(GROVE, (value, (AB,)))
        for wrong in ((0,), (0, ()), (0, (AB, AB)), (0, (C,)), (0, (XAB,)), [0, (AB,)], (0, [AB]), (0, ([2, ()],)),
                      (0, ((2, []),)), (False, (AB,)), (0, ((True, ()),)), (True, (AB, C, C)), (-1, ()), (6, ()), (-6, (AB,)),
                      (0, AB), (0, AB, ()), ((0, (AB,)),), run_of(GROVE, XAB), GROVE, (5, ((5, (AB,)),))):
            self.no_reading(GROVE, wrong)

    def test_20_trees(self):
        for side in (0, 1):
            reading = tower(19, side)
            self.led(DEEP, reading)
            self.led(DEEP, (2, (reading,)))
            self.led(DEEP, (4, (reading,)))
        self.led(DEEP, tower(20, 2))
        reading = (1, ())
        for _ in range(19):
            reading = (0, (reading,))
        run = self.led(LARGEST, reading)
        self.assertEqual(many_rules(run), 1 + 19 * 21 + 21)
        self.assertEqual(reading_of_run(LARGEST, run), reading)

    def test_21_trees(self):
        for side in (0, 1, 2):
            for many in (21, 23, 301, 601, 5001):
                self.no_reading(DEEP, tower(many, side))
            self.no_reading(DEEP, (2, (tower(21, side),)))
        self.no_reading(DEEP, (1, (tower(9, 0), tower(11, 1))))
        self.led(DEEP, (1, (tower(9, 0), tower(9, 1))))

    def test_600_rules(self):
        # 600 rules are enough for more trees than run_of takes.
        for steps in ((1,) * 118, (1,) * 115 + (2,) * 3, (2,) * 3 + (1,) * 115, (2,) * 78 + (1,) * 10):
            run = run_of_steps(ROW, steps)
            self.assertEqual(many_rules(run), 4 + 5 * len(steps) + 2 * steps.count(2))
            self.assertEqual(run_text(stacks_of(ROW), run), ("a",) + ("b",) * len(steps))
            reading = reading_of_run(ROW, run)
            self.assertTrue(alike(reading, reading_of_steps(steps)))
            self.assertTrue(is_plain(reading))
        self.assertEqual(many_rules(run), 600)

    def test_601_rules_and_more(self):
        for steps in ((1,) * 118 + (2,), (2,) + (1,) * 118, (1,) * 120, (2,) * 79 + (1,) * 9, (1,) * 1000):
            run = run_of_steps(ROW, steps)
            self.assertGreaterEqual(many_rules(run), 601)
            self.no_run(ROW, run)
        self.assertEqual(many_rules(run_of_steps(ROW, (1,) * 118 + (2,))), 601)

    def test_the_run_of_many_steps_is_made_right(self):
        for steps in ((), (1,), (2,), (1, 2), (2, 1), (2, 2, 1, 1, 2) * 3 + (1, 2, 1, 1)):
            self.assertTrue(alike(self.led(ROW, reading_of_steps(steps)), run_of_steps(ROW, steps)))

    def test_what_is_no_run(self):
        run = run_of(GROVE, XAB)
        for value in ODD_VALUES:
            self.no_run(GROVE, value)
            self.no_run(GROVE, (0, value))
            self.no_run(GROVE, (0, (value,)))
            self.no_run(GROVE, (0, ((3, (value,)),)))
            self.no_run(GROVE, (value, run[1]))
        for wrong in (XAB, AB, GROVE, PILE, run[1], run[1][0], run[1][0][1][0], (run,), run + ((),), (run[0],),
                      (run[0], run[1] * 2), list(run), (run[0], list(run[1])), (run[0], (list(run[1][0]),)),
                      (False, run[1]), (-47, run[1]), (1, run[1]), (0, ((3, ()),))):
            self.no_run(GROVE, wrong)

    def test_the_other_rule_at_a_foot(self):
        trees = Trees(2, ((1, plain(word("a"), FOOT)), (0, graft(1, FOOT))))
        right = (0, ((5, ((1, ((2, ((4, ((6, ((7, ()),)),)),)),)),)),))
        self.assertEqual(reading_of_run(trees, right), (1, ((0, ()),)))
        for wrong in (
            (0, ((5, ((1, ((2, ((3, ()),)),)),)),)),
            (0, ((5, ((1, ((2, ((4, ((6, ((8, ()),)),)),)),)),)),)),
            (0, ((5, ((1, ((2, ((4, ((6, ((8, ((6, ((7, ()),)),)),)),)),)),)),)),)),
            (0, ((5, ((1, ((2, ((4, ((6, ((7, ((6, ((7, ()),)),)),)),)),)),)),)),)),
            (0, ((5, ((1, ((2, ((4, ()),)),)),)),)),
            (0, ((5, ((1, ((2, ((3, ((6, ((7, ()),)),)),)),)),)),)),
        ):
            self.no_run(trees, wrong)

    def test_another_trees_rule_at_a_graft(self):
        trees = Trees(3, ((0, plain(graft(1), FOOT)), (1, plain(word("a"), FOOT)), (1, plain(FOOT, word("a"))),
                          (2, plain(word("a"), FOOT)), (0, plain(graft(2), FOOT))))
        runs = [run_of(trees, reading) for reading in ((0, ((1, ()),)), (0, ((2, ()),)), (4, ((3, ()),)))]
        begins = [run[1][0][1][0][1][0] for run in runs]
        self.assertEqual(len({begun[0] for begun in begins}), 3)
        for run, begun in zip(runs, begins):
            start, ((into, ((row, (_, foot)),)),) = run
            for other in begins:
                put = (start, ((into, ((row, ((other[0], begun[1]), foot)),)),))
                if other is begun:
                    self.assertEqual(put, run)
                else:
                    self.no_run(trees, put)
        # All of it, of the same kind, is the run of another reading.
        start, ((into, ((row, (_, foot)),)),) = runs[0]
        self.assertEqual(reading_of_run(trees, (start, ((into, ((row, (begins[1], foot)),)),))), (0, ((2, ()),)))
        self.no_run(trees, (start, ((into, ((row, (begins[2], foot)),)),)))

    def test_runs_changed_at_one_place(self):
        right = wrong = 0
        for trees, readings in ((GROVE, OF_KIND_0[:2]), (SMALL[0], [(0, ()), (1, ((0, ()), (0, ())))]),
                                (SMALL[4], [(2, ((0, ()), (1, ())))])):
            stacks = stacks_of(trees)
            for reading in readings:
                run = run_of(trees, reading)
                for changed in changes(run, len(stacks.rules)):
                    if slow_text(stacks, changed) is None:
                        self.no_run(trees, changed)
                        wrong += 1
                    else:
                        self.assertTrue(alike(run_of(trees, reading_of_run(trees, changed)), changed))
                        self.assertFalse(alike(changed, run))
                        right += 1
        self.assertGreater(wrong, 1500)

    def test_deep_and_large_values(self):
        self.no_run(DEEP, nested(5000))
        self.no_reading(DEEP, nested(5000))
        self.no_run(DEEP, (0, ((1, ()),) * 9000))
        self.no_reading(DEEP, (1, ((0, ()),) * 9000))
        for many in (18, 200, 5000):
            reading, run = (True, ()), (True, ())
            for _ in range(many):
                reading, run = (2, (reading,)), (0, (run,))
            self.no_reading(DEEP, reading)
            self.no_run(DEEP, run)

    def test_what_the_package_returns_cut_off_or_lengthened(self):
        run = run_of(DEEP, tower(19, 0))
        self.no_run(DEEP, run[1][0])
        self.no_run(DEEP, (0, (run,)))
        self.no_run(DEEP, (0, ((0, (run,)),)))
        self.no_run(DEEP, (run[0], run[1] + run[1]))
        self.no_reading(DEEP, (2, (tower(20, 2),)))
        self.no_reading(DEEP, (2, ((2, (tower(20, 2),)),)))

    def test_two_grammars_by_turns(self):
        runs = {}
        for _ in range(2):
            for trees, reading in ((GROVE, XAB), (DEEP, tower(5, 0)), (SMALL[2], (0, ((1, ()),)))):
                run = run_of(trees, reading)
                self.assertEqual(runs.setdefault(reading, run), run)
                self.assertEqual(reading_of_run(trees, run), reading)

    def test_arguments_do_not_change(self):
        reading = [0, [[2, []]]]
        self.no_reading(GROVE, reading)
        self.no_run(GROVE, reading)
        self.no_run(EACH_TREE, reading)
        self.assertEqual(reading, [0, [[2, []]]])


EACH_TREE = Trees(1, tuple((0, plain(FOOT, word(rule[2]))) for rule in EACH_SHAPE.rules if rule[1] == "left"))


def reading_of_steps(steps):
    """A tree reading of ROW that begins with these trees, each put in at the graft of the one ahead, then tree 0."""
    reading = (0, ())
    for tree in reversed(steps):
        reading = (tree, (reading,))
    return reading


def run_of_steps(trees, steps):
    """The run for reading_of_steps, however many steps there are."""
    slow = SlowRuns(trees)
    number = {rule: at for at, rule in enumerate(slow.rules)}
    run = ()
    for at in reversed(range(len(steps) + 1)):
        tree = (*steps, 0)[at]
        table = slow.tables[tree]
        root, foot = table[()], table[foot_place(trees, tree)]
        runs = run
        for place, knot in table.items():
            if place not in ((), (0,), foot_place(trees, tree)):
                runs += ((number[(1, knot, (("keep", 2, (knot,)),))], ((number[(2, knot, ())], ()),)),)
        if at == 0:
            begun, end = number[(0, -1, (("fresh", 1, (root,)),))], (number[(1, foot, ())], ())
        else:
            ahead = slow.tables[steps[at - 1]][(0,)]
            begun = number[(1, ahead, (("keep", 1, (ahead, root)),))]
            end = (number[(1, foot, (("keep", 2, ()),))], ((number[(2, ahead, ())], ()),))
        row = [one for one, rule in enumerate(slow.rules) if rule[:2] == (2, root)][0]
        run = ((begun, ((number[(1, root, (("keep", 2, (root,)),))], ((row, (*runs, end)),)),)),)
    return run[0]


def foot_place(trees, tree):
    """The place of the foot in a tree that has it straight in its outermost knot."""
    return (trees.trees[tree][1][1].index(FOOT),)


def changes(run, many):
    """The runs that are made of run by a change at one place, to numbers below many, and the next ones."""
    number, runs = run
    for other in (*range(-1, many + 1), bool(number)):
        if other is not number:
            yield (other, runs)
    yield from ((number, runs + (run,)), (number, runs + ((),)), (number,), (number, runs, ()), runs, number)
    for at, inner in enumerate(runs):
        yield from ((number, runs[:at] + runs[at + 1:]), (number, runs[:at] + (inner,) + runs[at:]), inner)
        for changed in changes(inner, many):
            yield (number, runs[:at] + (changed,) + runs[at + 1:])


if __name__ == "__main__":
    unittest.main()
