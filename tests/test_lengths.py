import itertools
import unittest

from grammars import EACH_SHAPE, ODD_VALUES, all_of_kinds, alike, drawn_pairs, is_plain, nested
from measuring import (
    all_steps, drawn_lengths, parts_of, slow_in_use, slow_lengths, slow_live, slow_loop_holds, some_loops,
)
from treestacks.errors import Undefined
from treestacks.lengths import four_parts, lengths, longest, loop, loop_holds
from treestacks.pairs import Pairs, text_of

# Kind 0 is bounded, 1 comes within itself, 2 leads to 1, 3 is not live, 4 needs 3, 5 has both a word and 4.
KINDS = Pairs(6, (
    (0, "wrap", 0, 3), (0, "ahead", 5, 5), (1, "left", "a"), (1, "behind", 1, 5), (2, "same", 1), (3, "wrap", 3, 0),
    (4, "first", 3), (5, "right", "b"), (5, "last", 4),
))

# Kind 0 leads to 1, 1 to 2, 2 to 0 and to 1; kind 3 comes within itself, but is not in use; kind 4 is not live.
LOOPS = Pairs(5, (
    (0, "same", 1), (1, "wrap", 3, 2), (2, "left", "a"), (2, "ahead", 0, 3), (3, "right", "b"), (3, "first", 2),
    (2, "wrap", 4, 0), (4, "wrap", 4, 3), (1, "behind", 1, 3),
))
APART = Pairs(4, (
    (0, "left", "a"), (0, "wrap", 1, 0), (1, "same", 2), (2, "left", "b"), (3, "behind", 3, 0), (3, "left", "c"),
    (3, "same", 2),
))


class TestLengths(unittest.TestCase):
    """[15] of the document: lengths and longest, with [1], [2]."""

    def agrees(self, pairs):
        """What lengths tells, if it is what the slow way tells, and longest fits."""
        told = lengths(pairs)
        self.assertEqual(told, slow_lengths(pairs))
        self.assertTrue(is_plain(told))
        self.assertEqual(len(told), pairs.kinds)
        if told[0] == -1:
            with self.assertRaises(Undefined) as caught:
                longest(pairs)
            self.assertIs(type(caught.exception), Undefined)
            self.assertEqual(caught.exception.what, "text")
        else:
            self.assertEqual(longest(pairs), None if told[0] == -2 else told[0])
            self.assertIsNot(type(longest(pairs)), bool)
        return told

    def test_kinds_that_are_bounded_or_not_or_not_live(self):
        self.assertEqual(self.agrees(KINDS), (2, -2, -2, -1, -1, 1))
        self.assertEqual(self.agrees(EACH_SHAPE), slow_lengths(EACH_SHAPE))
        self.assertEqual(self.agrees(four_parts()), (-2, -2, 2, 2, 1, 1, 1, 1))

    def test_each_shape(self):
        words = [(kind, shape, "a") for kind, shape in ((1, "left"), (2, "right"))]
        for shape, many in (("same", 1), ("first", 1), ("last", 1)):
            self.assertEqual(self.agrees(Pairs(3, ((0, shape, 1), *words))), (many, 1, 1))
        for shape in ("wrap", "ahead", "behind"):
            self.assertEqual(self.agrees(Pairs(3, ((0, shape, 1, 2), *words))), (2, 1, 1))
            self.assertEqual(self.agrees(Pairs(3, ((0, shape, 1, 1), *words))), (2, 1, 1))
            self.assertEqual(self.agrees(Pairs(3, ((0, shape, 1, 0), *words))), (-1, 1, 1))
            self.assertEqual(self.agrees(Pairs(3, ((0, shape, 1, 0), (0, "left", "a"), *words))), (-2, 1, 1))
            self.assertEqual(self.agrees(Pairs(3, ((0, shape, 0, 2), (0, "left", "a"), *words))), (-2, 1, 1))
        self.assertEqual(self.agrees(Pairs(1, ((0, "left", "a"),))), (1,))
        self.assertEqual(self.agrees(Pairs(1, ((0, "right", "abc"), (0, "right", "abc")))), (1,))
        self.assertEqual(self.agrees(Pairs(2, ((1, "right", "abc"),))), (-1, 1))

    def test_the_greatest_of_some(self):
        rules = ((0, "left", "a"), (0, "wrap", 1, 2), (0, "same", 2), (1, "ahead", 2, 2), (1, "left", "b"), (2, "right", "c"))
        for order in itertools.permutations(rules):
            self.assertEqual(lengths(Pairs(3, order)), (3, 2, 1))

    def test_a_kind_without_readings_bounds_nothing(self):
        # Kind 0 comes within itself by rules that need a kind that is not live only.
        for extra in ((0, "wrap", 0, 1), (0, "wrap", 1, 0), (0, "behind", 1, 2), (2, "ahead", 0, 1), (1, "wrap", 1, 0),
                      (1, "first", 3), (0, "ahead", 3, 3), (3, "behind", 1, 2)):
            pairs = Pairs(4, ((0, "left", "a"), (0, "wrap", 2, 2), (2, "left", "b"), extra))
            self.assertEqual(self.agrees(pairs), (2, -1, 1, -1))

    def test_a_loop_that_kind_0_does_not_lead_to(self):
        self.assertEqual(self.agrees(APART), (-2, 1, 1, -2))
        bounded = Pairs(APART.kinds, APART.rules[:1] + APART.rules[2:])
        self.assertEqual(self.agrees(bounded), (1, 1, 1, -2))
        self.assertEqual(longest(bounded), 1)

    def test_what_a_loop_is_led_to_from(self):
        # Kinds 0 to 4 lead on in a row, the last one comes within itself.
        steps = tuple((kind, "same", kind + 1) for kind in range(4))
        self.assertEqual(self.agrees(Pairs(6, (*steps, (4, "left", "a"), (4, "wrap", 4, 5), (5, "left", "a")))),
                         (-2, -2, -2, -2, -2, 1))
        self.assertEqual(self.agrees(Pairs(6, (*steps, (4, "left", "a"), (5, "wrap", 4, 5), (5, "left", "a")))),
                         (1, 1, 1, 1, 1, -2))
        self.assertEqual(self.agrees(Pairs(6, (*steps, (4, "left", "a"), (2, "wrap", 3, 1), (5, "left", "a")))),
                         (-2, -2, -2, 1, 1, 1))

    def test_40_kinds_in_a_row(self):
        for shape in ("same", "first", "last"):
            row = tuple((kind, shape, kind + 1) for kind in range(39))
            self.assertEqual(self.agrees(Pairs(40, row + ((39, "right", "a"),))), (1,) * 40)
            self.assertEqual(self.agrees(Pairs(40, row + ((39, "wrap", 39, 39),))), (-1,) * 40)
            self.assertEqual(self.agrees(Pairs(40, row + ((39, "left", "a"), (39, "wrap", 0, 20)))), (-2,) * 40)
            self.assertEqual(self.agrees(Pairs(40, row[::-1] + ((39, "left", "a"), (20, "wrap", 21, 22)))),
                             (2,) * 21 + (1,) * 19)

    def test_large_numbers(self):
        row = tuple((kind, ("wrap", "ahead", "behind")[kind % 3], kind + 1, kind + 1) for kind in range(39))
        self.assertEqual(self.agrees(Pairs(40, row + ((39, "right", "a"),)))[::13], (2 ** 39, 2 ** 26, 2 ** 13, 1))
        self.assertEqual(longest(Pairs(40, row + ((39, "right", "a"),))), 2 ** 39)
        self.assertEqual(self.agrees(Pairs(40, row + ((39, "right", "a"), (38, "same", 39), (0, "first", 1)))),
                         lengths(Pairs(40, row + ((39, "right", "a"),))))

    def test_drawn_ones(self):
        told = {}
        for seed in range(300):
            pairs = drawn_lengths(seed, 1 + seed % 40, 1 + seed * 7 % 90, seed % 5 * 2)
            for one in self.agrees(pairs)[:1]:
                told[min(one, 2)] = told.get(min(one, 2), 0) + 1
        for seed in range(100):
            self.agrees(drawn_pairs(seed, 1 + seed % 6, 2 + seed % 9, ("a", "b")))
        self.assertTrue(all(told[one] > 30 for one in (-1, -2, 1, 2)), told)

    def test_readings_of_drawn_ones(self):
        for seed in range(60):
            pairs = drawn_lengths(seed, 1 + seed % 5, 2 + seed % 7, 10)
            known = all_of_kinds(pairs, 5)
            for kind, told in enumerate(lengths(pairs)):
                words = [len(first + second) for _, (first, second) in known[kind]]
                if told == -1:
                    self.assertEqual(words, [])
                elif 0 < told <= 5:
                    self.assertEqual(max(words), told)

    def test_arguments_by_name_and_equal_calls(self):
        again = Pairs(KINDS.kinds, tuple(list(KINDS.rules)))
        self.assertEqual(lengths(pairs=KINDS), lengths(again))
        self.assertEqual(longest(pairs=KINDS), 2)
        self.assertEqual(loop(pairs=LOOPS), loop(Pairs(LOOPS.kinds, tuple(list(LOOPS.rules)))))
        self.assertIs(loop_holds(value=loop(LOOPS), pairs=LOOPS), True)


class TestLoops(unittest.TestCase):
    """[15] of the document: loop and loop_holds, and so (7) of its overview."""

    def holds(self, due, pairs, value):
        self.assertIs(loop_holds(pairs, value), due)

    def agrees(self, pairs):
        """Whether there is a loop exactly if kind 0 is live and longest None, one that holds; tell whether there is."""
        if lengths(pairs)[0] != -2:
            with self.assertRaises(Undefined) as caught:
                loop(pairs)
            self.assertIs(type(caught.exception), Undefined)
            self.assertEqual(caught.exception.what, "loop")
            return False
        told = loop(pairs)
        self.assertTrue(is_plain(told))
        self.assertTrue(slow_loop_holds(pairs, told))
        self.holds(True, pairs, told)
        return True

    def test_told_ones(self):
        self.assertTrue(self.agrees(LOOPS))
        self.assertTrue(self.agrees(four_parts()))
        self.assertEqual(loop(Pairs(1, ((0, "left", "a"), (0, "wrap", 0, 0))))[0][0], 1)
        self.assertFalse(self.agrees(KINDS))
        self.assertFalse(self.agrees(Pairs(1, ((0, "wrap", 0, 0),))))
        self.assertFalse(self.agrees(Pairs(2, ((0, "wrap", 1, 1), (1, "left", "a")))))

    def test_where_kind_0_is_not_live(self):
        # Other kinds come within themselves, but are not in use: there is no loop.
        pairs = Pairs(2, ((0, "wrap", 0, 1), (1, "left", "a"), (1, "wrap", 1, 1)))
        self.assertFalse(self.agrees(pairs))
        self.assertEqual(slow_in_use(pairs), {0})
        for steps in itertools.chain.from_iterable(itertools.product(all_steps(pairs), repeat=many) for many in (1, 2)):
            self.holds(False, pairs, steps)

    def test_drawn_ones(self):
        told = [self.agrees(drawn_lengths(seed, 1 + seed % 40, 1 + seed * 7 % 90, seed % 5 * 2)) for seed in range(300)]
        told += [self.agrees(drawn_pairs(seed, 1 + seed % 6, 2 + seed % 9, ("a", "b"))) for seed in range(100)]
        self.assertTrue(60 < sum(told) < 340, sum(told))

    def test_40_kinds_in_a_row(self):
        for shape in ("same", "first", "last"):
            row = tuple((kind, shape, kind + 1) for kind in range(39))
            for side, last in ((0, (39, "wrap", 0, 39)), (1, (39, "ahead", 39, 0))):
                pairs = Pairs(40, (*row, (39, "left", "a"), last))
                self.assertTrue(self.agrees(pairs))
                long = tuple((number, 0) for number in range(39)) + ((40, side),)
                self.holds(True, pairs, long)
                self.holds(True, pairs, long[7:] + long[:7])
                self.holds(True, pairs, long * 2)
                self.holds(False, pairs, long * 3)
                self.holds(True, pairs, ((40, 1 - side),) * 90)
                self.holds(False, pairs, long[:-1])

    def test_many_ways_to_each_kind(self):
        # By two rules from each kind to the next there are more ways than could be gone one by one.
        row = tuple((kind, shape, kind + 1) for kind in range(39) for shape in ("same", "last"))
        for last in ((39, "wrap", 0, 39), (39, "behind", 39, 39), (39, "ahead", 39, 20)):
            self.assertTrue(self.agrees(Pairs(40, (*row, (39, "left", "a"), last))))

    def test_no_way_by_a_rule_that_is_not_live(self):
        # Kind 2 is not live; the rules that need it stand ahead of the others, or behind them.
        live = ((0, "wrap", 1, 3), (1, "same", 3), (3, "left", "a"), (3, "ahead", 3, 0))
        dead = ((0, "wrap", 0, 2), (1, "wrap", 2, 1), (3, "behind", 0, 2), (2, "ahead", 3, 2), (3, "wrap", 2, 3))
        for at in range(len(dead) + 1):
            self.assertTrue(self.agrees(Pairs(4, dead[:at] + live + dead[at:])))
        for rules in itertools.permutations(((0, "wrap", 0, 1), (0, "wrap", 0, 0), (0, "left", "a"), (0, "ahead", 1, 0))):
            pairs = Pairs(2, rules)
            self.assertTrue(self.agrees(pairs))
            self.assertIn(loop(pairs)[0][0], (rules.index((0, "wrap", 0, 0)),))

    def test_loops_turned_and_doubled(self):
        one = ((0, 0), (1, 1), (3, 0))
        other = ((1, 1), (3, 1), (5, 0), (3, 0), (0, 0))
        own = ((8, 0),)
        for steps in (one, other, own):
            self.assertTrue(slow_loop_holds(LOOPS, steps))
            for at in range(len(steps)):
                self.holds(True, LOOPS, steps[at:] + steps[:at])
                self.holds(True, LOOPS, (steps[at:] + steps[:at]) * 2)
        for at in range(3):
            self.holds(True, LOOPS, one[:1] + own * at + one[1:] + one[:1] + own * 5 + one[1:])
            self.holds(at == 0, LOOPS, one[:2] + own * at + one[2:])

    def test_loops_cut_or_out_of_order(self):
        one = ((0, 0), (1, 1), (3, 0))
        for steps in (one[:1], one[:2], one[1:], one[2:], one[::2], one[::-1], one + one[:1], one + one[:2], one[1:] + one,
                      (one[0],) + one, ((0, 0), (3, 0), (1, 1)), ((1, 1),), ((3, 0), (1, 1))):
            self.assertFalse(slow_loop_holds(LOOPS, steps))
            self.holds(False, LOOPS, steps)

    def test_loops_changed_at_one_place(self):
        wrong = 0
        for steps in (((0, 0), (1, 1), (3, 0)), ((1, 1), (3, 1), (5, 0), (3, 0), (0, 0)), ((8, 0),), ((8, 0),) * 90):
            for at, (number, side) in enumerate(steps[:6]):
                for other in range(len(LOOPS.rules)):
                    for other_side in (0, 1):
                        changed = steps[:at] + ((other, other_side),) + steps[at + 1:]
                        self.holds(slow_loop_holds(LOOPS, changed), LOOPS, changed)
                for value in (-1, 2, 9, 10, 10 ** 12 - 1, True, False, None, "0", 0.0, (0,), [0], (), LOOPS):
                    for step in ((value, side), (number, value)):
                        if value != 2 or step == (number, 2):
                            self.holds(False, LOOPS, steps[:at] + (step,) + steps[at + 1:])
                            wrong += 1
                for step in ((number,), (number, side, 0), (number, side, ()), [number, side], ((number, side),), (), number,
                             None, str(number), {number: side}):
                    self.holds(False, LOOPS, steps[:at] + (step,) + steps[at + 1:])
        self.assertGreater(wrong, 100)

    def test_all_short_rows(self):
        many = 0
        for seed in range(120):
            pairs = drawn_pairs(seed, 1 + seed % 5, 3 + seed % 5, ("a", "b"))
            for length in (1, 2):
                for steps in itertools.product(all_steps(pairs), repeat=length):
                    self.holds(slow_loop_holds(pairs, steps), pairs, steps)
            loops = some_loops(pairs, 3)
            for steps in loops:
                self.holds(True, pairs, steps)
            many += len(loops)
            self.assertTrue(not loops or lengths(pairs)[0] == -2)
        self.assertGreater(many, 200)

    def test_kinds_that_are_not_in_use(self):
        self.assertEqual(slow_in_use(APART), {0, 1, 2})
        self.holds(True, APART, ((1, 1),))
        self.holds(False, APART, ((4, 0),))
        self.holds(False, APART, ((4, 0), (4, 0)))
        # By a rule that needs a kind that is not live nothing comes to be in use.
        rules = ((0, "left", "a"), (1, "left", "a"), (1, "wrap", 1, 1), (2, "wrap", 2, 2))
        self.holds(False, Pairs(3, (*rules, (0, "wrap", 1, 2))), ((2, 0),))
        self.holds(True, Pairs(3, (*rules, (0, "wrap", 1, 0))), ((2, 0),))
        self.assertEqual(slow_in_use(Pairs(3, (*rules, (0, "wrap", 1, 2)))), {0})

    def test_parts_that_are_not_live(self):
        self.assertEqual(slow_live(LOOPS), {0, 1, 2, 3})
        for steps in (((0, 0), (1, 1), (6, 1)), ((7, 0),), ((6, 0), (7, 0)), ((1, 1), (6, 1), (0, 0))):
            self.holds(False, LOOPS, steps)
        rules = ((0, "left", "a"), (0, "wrap", 0, 1), (0, "wrap", 1, 0), (0, "wrap", 0, 2))
        for live in (False, True):
            pairs = Pairs(3, (*rules, (1, "left" if live else "first", "a" if live else 2), (2, "wrap", 2, 2)))
            for steps in (((1, 0),), ((2, 1),), ((1, 0), (2, 1))):
                self.holds(live, pairs, steps)
            self.holds(False, pairs, ((3, 0),))

    def test_side_1_of_a_rule_without_other(self):
        pairs = Pairs(2, ((0, "wrap", 1, 1), (0, "left", "a"), (1, "first", 0), (1, "right", "b")))
        self.holds(True, pairs, ((0, 0), (2, 0)))
        self.holds(True, pairs, ((0, 1), (2, 0)))
        for steps in (((0, 0), (2, 1)), ((0, 1), (2, 1)), ((1, 0),), ((1, 1),), ((3, 0), (0, 0)), ((0, 0), (3, 0)),
                      ((2, 1), (0, 0))):
            self.holds(False, pairs, steps)

    def test_90_steps_and_91(self):
        pairs = Pairs(1, ((0, "left", "a"), (0, "wrap", 0, 0)))
        for many in (1, 2, 89, 90):
            self.holds(True, pairs, ((1, 0),) * many)
            self.holds(True, pairs, ((1, 1), (1, 0)) * (many // 2) + ((1, 0),) * (many % 2))
        for many in (91, 92, 180, 10000):
            self.holds(False, pairs, ((1, 0),) * many)
        self.holds(False, pairs, ())
        self.holds(False, pairs, ((1, 0),) * 89 + ((0, 0),))

    def test_any_value(self):
        for value in ODD_VALUES:
            self.holds(False, LOOPS, value)
            self.holds(False, LOOPS, (value,))
            self.holds(False, LOOPS, ((8, 0), value))
            self.holds(False, LOOPS, ((8, value),))
            self.holds(False, LOOPS, ((value, 0),))
        for value in ([(8, 0)], ([8, 0],), (8, 0), ((8,),), ((8, 0, 0),), (((8, 0),),), {(8, 0): 1}, ((8, False),), "80",
                      ((True, 1), (3, 0), (0, 0)), ((1, True), (3, 0), (0, 0)), ((1, 1), (3, False), (0, 0)), nested(5000),
                      ((1, 1), (3, 0), (False, 0)), LOOPS, (LOOPS,), (nested(5000),), ((8, nested(5000)),)):
            self.holds(False, LOOPS, value)

    def test_what_the_package_returns(self):
        told = loop(LOOPS)
        for value in (told[0], told[:-1], told + told[:1] if len(told) > 1 else told[0], (told,), told + ((),), lengths(LOOPS)):
            self.holds(False, LOOPS, value)
        self.assertTrue(alike(loop(LOOPS), told))

    def test_words_of_readings_that_go_round(self):
        # A loop is a way on which readings are grown: kind 0 by more words each time.
        pairs = Pairs(3, ((0, "wrap", 1, 2), (1, "left", "a"), (2, "right", "b"), (2, "ahead", 2, 0)))
        self.assertTrue(self.agrees(pairs))
        reading, sizes = (0, (1,), (2,)), []
        for _ in range(5):
            sizes.append(len(text_of(pairs, reading)))
            reading = (0, (1,), (3, (2,), reading))
        self.assertEqual(sizes, sorted(set(sizes)))
        self.assertTrue(all(parts_of(pairs.rules[number]) for number, _ in loop(pairs)))


if __name__ == "__main__":
    unittest.main()
