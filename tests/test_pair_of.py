import unittest

from grammars import AB, CD, EACH_READING, EACH_SHAPE, ODD_VALUES, Row, all_of_kinds, drawn_pairs, is_plain, nested
from treestacks.errors import InvalidReading
from treestacks.pairs import Pairs, kind_of, pair_of, text_of

# Kind 0 is put together of itself, so its readings may be as large and as deep as is asked for.
ONE_KIND = Pairs(2, ((0, "left", "a"), (0, "wrap", 0, 0), (1, "same", 0), (0, "behind", 0, 1), (0, "right", "b")))


def tower(rules, side):
    """A reading of kind 0 of ONE_KIND of so many rules, an odd number, as deep as can be."""
    reading = (0,)
    for _ in range(rules // 2):
        reading = (1, reading, (4,)) if side == 0 else (1, (4,), reading)
    return reading


class TestReadings(unittest.TestCase):
    """[6] of the document: pair_of, text_of and kind_of, with [1], [2] and [4]."""

    def refused(self, pairs, reading):
        for function in (pair_of, text_of, kind_of):
            with self.assertRaises(InvalidReading) as caught:
                function(pairs, reading)
            self.assertIs(caught.exception.value, reading)

    def test_every_shape(self):
        for reading, kind, pair in EACH_READING:
            with self.subTest(reading=reading):
                self.assertEqual(pair_of(EACH_SHAPE, reading), pair)
                self.assertEqual(text_of(EACH_SHAPE, reading), pair[0] + pair[1])
                self.assertEqual(kind_of(EACH_SHAPE, reading), kind)

    def test_what_is_returned_is_plain(self):
        pairs = Pairs(EACH_SHAPE.kinds, Row([Row(rule) for rule in EACH_SHAPE.rules]))
        for reading, _, _ in EACH_READING:
            self.assertTrue(is_plain(pair_of(pairs, Row(reading))))
            self.assertTrue(is_plain(text_of(pairs, Row(reading))))
            self.assertTrue(is_plain(kind_of(pairs, Row(reading))))

    def test_arguments_by_name(self):
        self.assertEqual(pair_of(reading=AB, pairs=EACH_SHAPE), (("a",), ("b",)))
        self.assertEqual(text_of(reading=AB, pairs=EACH_SHAPE), ("a", "b"))
        self.assertEqual(kind_of(reading=CD, pairs=EACH_SHAPE), 7)

    def test_equal_rules_are_told_apart_by_number(self):
        pairs = Pairs(3, ((2, "left", "a"), (2, "left", "a"), (1, "left", "a")))
        self.assertEqual([kind_of(pairs, (number,)) for number in range(3)], [2, 2, 1])

    def test_drawn_ones(self):
        for seed in range(40):
            pairs = drawn_pairs(seed, 3, 6, ("a", "b"))
            for kind, known in enumerate(all_of_kinds(pairs, 3)):
                for reading, pair in known:
                    self.assertEqual(pair_of(pairs, reading), pair)
                    self.assertEqual(text_of(pairs, reading), pair[0] + pair[1])
                    self.assertEqual(kind_of(pairs, reading), kind)

    def test_no_value_is_a_reading(self):
        for value in ODD_VALUES:
            self.refused(EACH_SHAPE, value)

    def test_another_kind_within(self):
        for reading in ((0, (2,), (2,)), (0, (1,), (1,)), (0, (2,), (1,)), (0, AB, (2,)), (3, CD), (4, (1,)),
                        (5, CD), (6, AB, AB), (6, CD, CD), (6, CD, AB), (10, CD, CD), (6, AB, (10, AB, AB))):
            self.refused(EACH_SHAPE, reading)

    def test_parts_left_out_or_put_to(self):
        for reading, _, _ in EACH_READING:
            for end in range(len(reading)):
                self.refused(EACH_SHAPE, reading[:end])
            for more in (0, (), (1,), AB, None):
                self.refused(EACH_SHAPE, reading + (more,))
            for at in range(1, len(reading)):
                self.refused(EACH_SHAPE, reading[:at] + (reading[at] + ((1,),),) + reading[at + 1:])
                self.refused(EACH_SHAPE, reading[:at] + (reading[at][:-1],) + reading[at + 1:])

    def test_numbers_that_no_rule_has(self):
        for wrong in (-1, -12, 12, 13, 10 ** 12 - 1, True, False, None, "0", (0,), [0], 0.0, EACH_SHAPE):
            for reading, _, _ in EACH_READING:
                self.refused(EACH_SHAPE, (wrong,) + reading[1:])
            self.refused(EACH_SHAPE, (0, (wrong,), (2,)))
            self.refused(EACH_SHAPE, (0, (1,), (wrong,)))

    def test_bools_are_no_numbers(self):
        self.refused(ONE_KIND, (False,))
        self.refused(EACH_SHAPE, (True,))
        self.refused(EACH_SHAPE, (False, (1,), (2,)))
        self.refused(EACH_SHAPE, (0, (True,), (2,)))

    def test_lists_are_no_tuples(self):
        for reading in ([1], [0, (1,), (2,)], (0, [1], (2,)), (0, (1,), [2]), (6, AB, list(CD))):
            self.refused(EACH_SHAPE, reading)

    def test_values_in_the_place_of_a_part(self):
        for value in ODD_VALUES:
            self.refused(EACH_SHAPE, (0, value, (2,)))
            self.refused(EACH_SHAPE, (0, (1,), value))
            self.refused(EACH_SHAPE, (3, value))

    def test_600_rules(self):
        for side in (0, 1):
            reading = tower(599, side)
            self.assertEqual(len(text_of(ONE_KIND, reading)), 300)
            self.assertEqual(kind_of(ONE_KIND, reading), 0)
            self.assertEqual(kind_of(ONE_KIND, (2, reading)), 1)
            self.assertEqual(pair_of(ONE_KIND, (2, reading)), pair_of(ONE_KIND, reading))

    def test_601_rules_and_more(self):
        for side in (0, 1):
            for rules in (601, 603, 1201, 5001):
                self.refused(ONE_KIND, tower(rules, side))
            self.refused(ONE_KIND, (2, tower(601, side)))
            self.refused(ONE_KIND, (1, tower(299, side), tower(301, side)))
            self.assertEqual(kind_of(ONE_KIND, (1, tower(299, side), tower(299, side))), 0)

    def test_rules_are_counted_as_often_as_they_come(self):
        reading = (0,)
        for _ in range(8):
            reading = (1, reading, reading)
        self.assertEqual(text_of(ONE_KIND, reading), ("a",) * 256)
        self.refused(ONE_KIND, (1, reading, reading))
        for _ in range(52):
            reading = (1, reading, reading)
        self.refused(ONE_KIND, reading)

    def test_deep_values(self):
        self.refused(ONE_KIND, nested(5000))
        wrong = None
        for _ in range(5000):
            wrong = (1, (0,), wrong)
        self.refused(ONE_KIND, wrong)

    def test_a_wrong_end_of_a_deep_one(self):
        wrong = (True,)
        for _ in range(250):
            wrong = (1, wrong, (0,))
        self.refused(ONE_KIND, wrong)

    def test_arguments_do_not_change(self):
        reading = [0, [1], [2]]
        self.refused(EACH_SHAPE, reading)
        self.assertEqual(reading, [0, [1], [2]])


if __name__ == "__main__":
    unittest.main()
