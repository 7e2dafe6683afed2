import unittest

from grammars import ODD_VALUES, Row, is_plain, nested
from piles import PILE, all_runs, drawn_stacks, fresh, keep, rules_in, runs_of_size, slow_text
from treestacks.errors import InvalidRun
from treestacks.stacks import Stacks, run_text

A, B, C = ("word", "a"), ("word", "b"), ("word", "c")

# A run of PILE of two a; of none.
END = (4, ())
TWO = (0, ((0, ((1, ((2, ((3, ((3, (END,)),)),)),)),)),))
NONE = (1, ((2, (END,)),))

# Runs may be as deep as is asked for: rule 0 puts a number on the stack, rule 2 takes one off.
DEEP = Stacks((
    (0, -1, (keep(0, 1), A)), (0, -1, (keep(1),)), (1, 1, (B, keep(1))), (1, -1, ()),
    (0, -1, (A, keep(0, 1, 1))), (0, -1, (fresh(0), keep(0))), (0, -1, (C,)),
))


def deep(many, down):
    """A run of DEEP that puts so many numbers on the stack and takes so many off."""
    run = (3, ())
    for _ in range(down):
        run = (2, (run,))
    run = (1, (run,))
    for _ in range(many):
        run = (0, (run,))
    return run


def row(many):
    """A run of DEEP of so many rules, an odd number, half of them put beside each other."""
    run = (6, ())
    for _ in range(many // 2):
        run = (5, ((6, ()), run))
    return run


class TestRunText(unittest.TestCase):
    """[12] of the document: run_text, with [1], [2] and [4]."""

    def refused(self, stacks, run):
        with self.assertRaises(InvalidRun) as caught:
            run_text(stacks, run)
        self.assertIs(type(caught.exception), InvalidRun)
        self.assertIs(caught.exception.value, run)

    def agrees(self, stacks, run):
        """Whether run_text tells what the slow way does, also where run is none."""
        text = slow_text(stacks, run)
        if text is None:
            self.refused(stacks, run)
        else:
            self.assertEqual(run_text(stacks, run), text)
            self.assertTrue(is_plain(run_text(stacks, run)))
        return text is not None

    def test_runs_of_kind_0_with_no_stack(self):
        self.assertEqual(run_text(PILE, TWO), tuple("aabbccd"))
        self.assertEqual(run_text(PILE, NONE), ("d",))
        self.assertEqual(run_text(PILE, (0, (NONE_B,))), tuple("abcd"))
        self.assertEqual(run_text(Stacks(((0, -1, ()),)), (0, ())), ())

    def test_arguments_by_name(self):
        self.assertEqual(run_text(run=NONE, stacks=PILE), ("d",))

    def test_the_top_is_taken_off(self):
        stacks = Stacks(((0, -1, (fresh(1, 5, 6),)), (1, 6, (A, keep(1))), (1, 5, (B, keep(1))), (1, -1, ()),
                         (1, 5, (C,))))
        self.assertEqual(run_text(stacks, (0, ((1, ((2, ((3, ()),)),)),))), ("a", "b"))
        self.assertEqual(run_text(stacks, (0, ((1, ((4, ()),)),))), ("a", "c"))
        # What is taken off is the last number, and each just once.
        for run in ((0, ((2, ((1, ((3, ()),)),)),)), (0, ((1, ((1, ((2, ((3, ()),)),)),)),)), (0, ((3, ()),)),
                    (0, ((1, ((3, ()),)),)), (0, ((1, ((2, ((2, ((3, ()),)),)),)),)), (0, ((4, ()),)),
                    (0, ((1, ((2, ((4, ()),)),)),))):
            self.refused(stacks, run)

    def test_by_minus_1_nothing_is_taken_off(self):
        stacks = Stacks(((0, -1, (fresh(1, 5),)), (1, -1, (A, keep(1))), (1, 5, (B,)), (1, -1, (C,))))
        self.assertEqual(run_text(stacks, (0, ((2, ()),))), ("b",))
        self.assertEqual(run_text(stacks, (0, ((1, ((2, ()),)),))), ("a", "b"))
        self.assertEqual(run_text(stacks, (0, ((1, ((1, ((2, ()),)),)),))), ("a", "a", "b"))
        # Without a part "keep" nothing may be left.
        for run in ((0, ((3, ()),)), (0, ((1, ((3, ()),)),)), (3, ()), (1, ((3, ()),)), (2, ())):
            self.refused(stacks, run)

    def test_a_number_from_the_stack_is_not_minus_1(self):
        stacks = Stacks(((0, 0, ()), (0, -1, (keep(0, 0, 0),)), (0, 0, (keep(0),)), (0, 199, (A,)),
                         (0, -1, (B, fresh(0, 199)))))
        self.assertEqual(run_text(stacks, (1, ((2, ((0, ()),)),))), ())
        self.assertEqual(run_text(stacks, (4, ((3, ()),))), ("b", "a"))
        for run in ((0, ()), (1, ((0, ()),)), (1, ((2, ((2, ((0, ()),)),)),)), (3, ()), (2, ((0, ()),))):
            self.refused(stacks, run)

    def test_fresh_parts_have_their_own_stack(self):
        stacks = Stacks(((0, -1, (fresh(1, 3), A, fresh(2, 3, 4), fresh(1, 4))), (1, 3, (B,)), (1, 4, (C, C)),
                         (2, 4, (keep(1),)), (0, -1, (keep(2, 9, 9), fresh(1, 3))), (2, 9, (keep(2),)), (2, -1, ())))
        self.assertEqual(run_text(stacks, (0, ((1, ()), (3, ((1, ()),)), (2, ())))), tuple("babcc"))
        self.assertEqual(run_text(stacks, (4, ((5, ((5, ((6, ()),)),)), (1, ())))), ("b",))
        for run in ((0, ((2, ()), (3, ((1, ()),)), (2, ()))), (0, ((1, ()), (3, ((2, ()),)), (2, ()))),
                    (0, ((1, ()), (3, ((1, ()),)), (1, ()))), (4, ((5, ((6, ()),)), (1, ()))), (4, ((6, ()), (1, ())))):
            self.refused(stacks, run)

    def test_a_push_stands_behind_what_is_left_in_order(self):
        stacks = Stacks(((0, -1, (fresh(1, 1, 2),)), (1, 2, (keep(1, 3, 4),)), (1, 4, (A, keep(1))),
                         (1, 3, (B, keep(1))), (1, 1, (C,))))
        self.assertEqual(run_text(stacks, (0, ((1, ((2, ((3, ((4, ()),)),)),)),))), tuple("abc"))
        for run in ((0, ((1, ((3, ((2, ((4, ()),)),)),)),)), (0, ((1, ((4, ()),)),)), (0, ((1, ((2, ((4, ()),)),)),)),
                    (0, ((2, ((3, ((4, ()),)),)),))):
            self.refused(stacks, run)

    def test_nothing_is_left_where_no_part_is_keep(self):
        stacks = Stacks(((0, -1, (fresh(1, 1),)), (1, 1, ()), (1, -1, ()), (1, 1, (A, fresh(1, 1))), (1, -1, (B,)),
                         (0, -1, (fresh(1, 1, 1),)), (1, 1, (keep(1),)), (0, -1, (fresh(1),))))
        for run, text in (((0, ((1, ()),)), ""), ((0, ((3, ((1, ()),)),)), "a"), ((5, ((6, ((1, ()),)),)), ""),
                          ((0, ((6, ((2, ()),)),)), ""), ((7, ((2, ()),)), ""), ((7, ((4, ()),)), "b"),
                          ((5, ((6, ((6, ((4, ()),)),)),)), "b")):
            self.assertEqual(run_text(stacks, run), tuple(text))
        for run in ((0, ((2, ()),)), (0, ((4, ()),)), (5, ((1, ()),)), (5, ((3, ((1, ()),)),)), (5, ((2, ()),)),
                    (5, ((6, ((2, ()),)),)), (7, ((1, ()),)), (7, ((3, ((1, ()),)),))):
            self.refused(stacks, run)

    def test_parts_and_words_in_their_order(self):
        stacks = Stacks(((0, -1, (A, fresh(1), B, keep(2), C, fresh(1, 1), A)), (1, -1, (("word", "x"),)),
                         (2, -1, (("word", "y"),)), (1, 1, (("word", "z"), ("word", "zz")))))
        self.assertEqual(run_text(stacks, (0, ((1, ()), (2, ()), (3, ())))), ("a", "x", "b", "y", "c", "z", "zz", "a"))
        for runs in (((2, ()), (1, ()), (3, ())), ((1, ()), (3, ()), (2, ())), ((3, ()), (2, ()), (1, ()))):
            self.refused(stacks, (0, runs))

    def test_another_kind_or_stack(self):
        for run in (END, (2, (END,)), (3, (END,)), (5, ((7, ((8, ()),)), END, (8, ()))), (6, ((8, ()),)), (8, ())):
            self.refused(PILE, run)

    def test_drawn_ones(self):
        right = 0
        for seed in range(150):
            stacks = drawn_stacks(seed, 6 + seed % 8)
            for run, text in all_runs(stacks, 7, 4).items():
                self.assertEqual(run_text(stacks, run), text)
                self.assertEqual(slow_text(stacks, run), text)
                right += 1
        self.assertGreater(right, 250)

    def test_drawn_runs_of_other_kinds_and_stacks(self):
        known = {}
        for seed in range(40):
            stacks = drawn_stacks(seed, 6 + seed % 8)
            for kind, stack in ((1, ()), (2, ()), (0, (0,)), (0, (1, 0)), (1, (1,))):
                for size in range(1, 5):
                    for run, _ in runs_of_size(stacks, size, 3, known.setdefault(seed, {}), kind, stack):
                        self.agrees(stacks, run)

    def test_runs_changed_at_one_place(self):
        right = wrong = 0
        for stacks, runs in [(PILE, (TWO, NONE))] + [(s, list(all_runs(s, 6, 3))) for s in map(drawn, range(30))]:
            for run in runs:
                for changed in changes(run, len(stacks.rules)):
                    if self.agrees(stacks, changed):
                        right += 1
                    else:
                        wrong += 1
        self.assertGreater(right, 20)
        self.assertGreater(wrong, 2000)

    def test_no_value_is_a_run(self):
        for value in ODD_VALUES:
            self.refused(PILE, value)
            self.refused(PILE, (value, ()))
            self.refused(PILE, (0, value))
            self.refused(PILE, (0, (value,)))
            self.refused(PILE, (1, ((2, (value,)),)))
            if value != ():
                self.refused(PILE, (1, ((2, ((4, value),)),)))

    def test_runs_left_out_or_put_to(self):
        for run in ((1,), (1, ()), (1, NONE[1] + (END,)), (1, (END,) + NONE[1]), (1, *NONE[1]), NONE + ((),), NONE[::-1],
                    (NONE,), NONE[1], (1, ((2, ()),)), (1, ((2, (END, END)),)), (1, ((2, ((4,),)),)), (1, ((2, (4,)),)),
                    (1, ((2, ((4, (), ()),)),)), (1, ((2, ((4, (END,)),)),)), (1, (NONE,)), (1, (END,)), (1, (2, (END,)))):
            self.refused(PILE, run)

    def test_numbers_that_no_rule_has(self):
        for number in (-1, -2, 10, 11, 10 ** 12 - 1, 1 - 10 ** 12, True, False, None, "1", (1,), 1.0, PILE):
            self.refused(PILE, (number, NONE[1]))
            self.refused(PILE, (1, ((number, (END,)),)))
            self.refused(PILE, (1, ((2, ((number, ()),)),)))

    def test_bools_are_no_numbers(self):
        stacks = Stacks(((0, -1, (A,)), (0, -1, (fresh(0),))))
        self.assertEqual(run_text(stacks, (1, ((0, ()),))), ("a",))
        for run in ((False, ()), (True, ((0, ()),)), (1, ((False, ()),)), (True, ((False, ()),))):
            self.refused(stacks, run)

    def test_lists_are_no_tuples(self):
        for run in ([1, NONE[1]], (1, list(NONE[1])), (1, ([2, (END,)],)), (1, ((2, [END]),)), (1, ((2, ([4, ()],)),)),
                    (1, ((2, ((4, []),)),)), (1, {(2, (END,)): 1}), (1, ((2, ((4, ""),)),)), (1, ((2, ((4, {}),)),))):
            self.refused(PILE, run)

    def test_tuples_of_a_class(self):
        def rows(value):
            return Row([rows(part) for part in value]) if isinstance(value, tuple) else value
        self.assertEqual(run_text(PILE, rows(TWO)), tuple("aabbccd"))
        self.assertTrue(is_plain(run_text(PILE, rows(TWO))))

    def test_600_rules(self):
        self.assertEqual(run_text(DEEP, deep(299, 299)), ("b",) * 299 + ("a",) * 299)
        self.assertEqual(run_text(DEEP, row(599)), ("c",) * 300)
        self.assertEqual(len(run_text(DEEP, (5, (row(297), deep(150, 150))))), 149 + 300)
        large = Stacks(((0, -1, (fresh(0),) * 12), (0, -1, (("word", "abc"),) * 12), (0, -1, (fresh(0),))))
        # 49 rules of 12 parts each, 1 more with its one, and 11 * 49 + 1 leaves.
        run = (0, ((0, ((1, ()),) * 12),) * 12)
        self.assertEqual(run_text(large, run), ("abc",) * 1728)
        run = (0, ((0, ((1, ()),) * 12),) * 4 + (run,) * 3 + ((1, ()),) * 5)
        self.assertEqual(rules_in(run), 1 + 4 * 13 + 3 * 157 + 5)
        self.assertEqual(len(run_text(large, run)), (4 * 12 + 3 * 144 + 5) * 12)

    def test_601_rules_and_more(self):
        self.refused(DEEP, deep(300, 300))
        self.assertEqual(len(run_text(DEEP, (4, (deep(297, 299),)))), 1 + 297 + 299)
        self.refused(DEEP, (4, (deep(298, 300),)))
        for many in (601, 603, 1201, 5001):
            self.refused(DEEP, row(many))
        self.refused(DEEP, (5, (row(299), row(301))))
        self.assertEqual(len(run_text(DEEP, (5, (row(299), row(299))))), 300)
        for many in (500, 5000):
            self.refused(DEEP, deep(many, many))

    def test_rules_are_counted_as_often_as_they_come(self):
        run = (6, ())
        for _ in range(8):
            run = (5, (run, run))
        self.assertEqual(run_text(DEEP, run), ("c",) * 256)
        for _ in range(20):
            run = (5, (run, run))
            self.refused(DEEP, run)

    def test_deep_values(self):
        self.refused(DEEP, nested(5000))
        for wrong in (None, (True, ()), (7, ()), (3, ()), (1, ()), (6, ((6, ()),))):
            for many in (200, 597, 5000):
                run = wrong
                for _ in range(many):
                    run = (0, (run,))
                self.refused(DEEP, run)
        for many, down in ((200, 199), (199, 200), (0, 1), (1, 0)):
            self.refused(DEEP, deep(many, down))

    def test_large_values(self):
        self.refused(PILE, (1, ((2, (END,)),) * 9000))
        self.refused(PILE, (4, (END,) * 9000))

    def test_arguments_do_not_change(self):
        run = [1, [[2, [[4, []]]]]]
        self.refused(PILE, run)
        self.assertEqual(run, [1, [[2, [[4, []]]]]])


def drawn(seed):
    return drawn_stacks(seed, 10)


def changes(run, many):
    """The runs that are made of run by a change at one place, to numbers below many, and the next ones."""
    number, runs = run
    for other in (*range(-1, many + 1), True, False, None, "0"):
        if other is not number:
            yield (other, runs)
    yield from ((number, runs + (run,)), (number, runs + ((),)), (number,), (number, runs, ()), runs, number)
    for at, inner in enumerate(runs):
        yield from ((number, runs[:at] + runs[at + 1:]), (number, runs[:at] + (inner,) + runs[at:]), inner)
        for changed in changes(inner, many):
            yield (number, runs[:at] + (changed,) + runs[at + 1:])


# Below an a that stands on the stack: kind 1 takes off the 0, then the 7 of the a.
NONE_B = (1, ((2, ((3, (END,)),)),))


if __name__ == "__main__":
    unittest.main()
