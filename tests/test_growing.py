import unittest

from grammars import (
    EACH_READING, EACH_SHAPE, ODD_VALUES, Row, alike, all_of_kinds, drawn_pairs, is_plain, nested,
)
from treestacks.errors import InvalidNumber, InvalidPlaces, InvalidReading
from treestacks.growing import grown
from treestacks.pairs import Pairs, kind_of, pair_of, text_of

# Kind 0 comes within itself by each side of rule 1, and by rules 3, 5 and 4; kind 1 within kind 0.
LOOPS = Pairs(4, (
    (0, "left", "a"), (0, "wrap", 0, 0), (1, "right", "b"), (0, "same", 2), (2, "ahead", 1, 0), (0, "behind", 3, 1),
    (3, "first", 1), (1, "wrap", 1, 0),
))
LEAF = (0,)

# Kind 0 stands at (), (0,), (0, 0), (0, 1), (1,), (1, 0, 1); kind 2 at (1, 0), kind 1 at (1, 0, 0).
READING = (1, (1, LEAF, LEAF), (3, (4, (2,), LEAF)))

WRONG_STEPS = (2, 3, -1, -2, 10 ** 12 - 1, True, False, None, "0", (), (0,), [0], 0.0, EACH_SHAPE)


def put(reading, place, part):
    """The reading with part at place."""
    if place == ():
        return part
    parts = list(reading)
    parts[1 + place[0]] = put(reading[1 + place[0]], place[1:], part)
    return tuple(parts)


def at(reading, place):
    """What stands at place."""
    return reading if place == () else at(reading[1 + place[0]], place[1:])


def places_in(reading):
    """All places in a reading."""
    return [()] + [(step, *place) for step, part in enumerate(reading[1:]) for place in places_in(part)]


def slow_grown(reading, outer, inner, times):
    """What the document calls the reading grown, one step more at a time."""
    rest = inner[len(outer):]
    told = put(reading, outer, at(reading, inner))
    for _ in range(times):
        told = put(told, outer, put(at(reading, outer), rest, at(told, outer)))
    return told


def rules_in(reading):
    """How many rules a reading has."""
    return 1 + sum(rules_in(part) for part in reading[1:])


def tower(many, side):
    """A reading of LOOPS of so many rules, an odd number, as deep as can be on this side."""
    reading = LEAF
    for _ in range(many // 2):
        reading = (1, reading, LEAF) if side == 0 else (1, LEAF, reading)
    return reading


class TestGrown(unittest.TestCase):
    """[14] of the document, and so (6) of its overview; with [1] to [4]."""

    def refused(self, error, value, *arguments):
        with self.assertRaises(error) as caught:
            grown(*arguments)
        self.assertIs(type(caught.exception), error)
        if error is InvalidPlaces:
            outer, inner = caught.exception.value
            self.assertIs(type(caught.exception.value), tuple)
            self.assertIs(outer, value[0])
            self.assertIs(inner, value[1])
        else:
            self.assertIs(caught.exception.value, value)

    def no_places(self, reading, outer, inner, times=1):
        self.refused(InvalidPlaces, (outer, inner), LOOPS, reading, outer, inner, times)

    def agrees(self, pairs, reading):
        """How many pairs of places may be grown in reading, if at each pair all that is told is right."""
        many = 0
        places = places_in(reading)
        for outer in places:
            for inner in places:
                longer = len(inner) > len(outer) and inner[:len(outer)] == outer
                if longer and kind_of(pairs, at(reading, outer)) == kind_of(pairs, at(reading, inner)):
                    self.grows(pairs, reading, outer, inner)
                    many += 1
                else:
                    self.refused(InvalidPlaces, (outer, inner), pairs, reading, outer, inner, 1)
        return many

    def grows(self, pairs, reading, outer, inner):
        more = len(text_of(pairs, at(reading, outer))) - len(text_of(pairs, at(reading, inner)))
        self.assertGreaterEqual(more, 1)
        for times in range(5):
            told = grown(pairs, reading, outer, inner, times)
            self.assertTrue(is_plain(told))
            self.assertTrue(alike(told, slow_grown(reading, outer, inner, times)))
            self.assertEqual(kind_of(pairs, told), kind_of(pairs, reading))
            self.assertEqual(len(text_of(pairs, told)), len(text_of(pairs, reading)) + (times - 1) * more)
            self.assertEqual(alike(told, reading), times == 1)

    def test_told_ones(self):
        self.assertEqual(grown(LOOPS, (1, LEAF, LEAF), (), (0,), 0), LEAF)
        self.assertEqual(grown(LOOPS, (1, LEAF, LEAF), (), (0,), 1), (1, LEAF, LEAF))
        self.assertEqual(grown(LOOPS, (1, LEAF, LEAF), (), (0,), 2), (1, (1, LEAF, LEAF), LEAF))
        self.assertEqual(grown(LOOPS, (1, LEAF, LEAF), (), (1,), 2), (1, LEAF, (1, LEAF, LEAF)))
        self.assertEqual(grown(LOOPS, (1, LEAF, LEAF), (), (1,), 4),
                         (1, LEAF, (1, LEAF, (1, LEAF, (1, LEAF, LEAF)))))
        self.assertEqual(grown(LOOPS, READING, (1,), (1, 0, 1), 0), (1, (1, LEAF, LEAF), LEAF))
        self.assertEqual(grown(LOOPS, READING, (1,), (1, 0, 1), 2),
                         (1, (1, LEAF, LEAF), (3, (4, (2,), (3, (4, (2,), LEAF))))))
        self.assertEqual(grown(LOOPS, READING, (), (0, 1), 0), LEAF)
        self.assertEqual(grown(LOOPS, READING, (0,), (0, 0), 3), (1, (1, (1, (1, LEAF, LEAF), LEAF), LEAF), READING[2]))

    def test_what_is_beside_is_put_in_each_time(self):
        # Rule 5 has a reading with two parts of its own beside the place.
        reading = (5, (6, (7, (2,), LEAF)), (7, (2,), (1, LEAF, LEAF)))
        self.assertGreater(self.agrees(LOOPS, reading), 3)
        for times in range(5):
            told = grown(LOOPS, (7, (7, (2,), LEAF), (1, LEAF, LEAF)), (), (0,), times)
            self.assertEqual(text_of(LOOPS, told).count("b"), 1)
            self.assertEqual(text_of(LOOPS, told).count("a"), 1 + 2 * times)

    def test_each_pair_of_places(self):
        self.assertEqual(self.agrees(LOOPS, READING), 8)
        for reading, _, _ in EACH_READING:
            self.agrees(EACH_SHAPE, reading)

    def test_outer_within_the_reading_of_any_kind(self):
        reading = (4, (7, (7, (2,), LEAF), (1, LEAF, LEAF)), (3, (4, (2,), LEAF)))
        self.assertEqual(kind_of(LOOPS, reading), 2)
        self.assertEqual(grown(LOOPS, reading, (0,), (0, 0), 0), (4, (7, (2,), LEAF), (3, (4, (2,), LEAF))))
        self.assertEqual(self.agrees(LOOPS, reading), 7)

    def test_drawn_ones(self):
        many = 0
        for seed in range(80):
            pairs = drawn_pairs(seed, 1 + seed % 4, 4 + seed % 5, ("a", "b"))
            for known in all_of_kinds(pairs, 4):
                for reading, _ in known[-3:]:
                    many += self.agrees(pairs, reading) if rules_in(reading) <= 40 else 0
        self.assertGreater(many, 200)

    def test_the_gap_stays(self):
        pairs = Pairs(2, ((0, "wrap", 1, 0), (0, "left", "x"), (1, "wrap", 1, 1), (1, "left", "a"), (1, "right", "b")))
        reading = (0, (2, (3,), (4,)), (1,))
        self.assertEqual(pair_of(pairs, reading), (("a", "x"), ("b",)))
        told = grown(pairs, (0, (2, (3,), (4,)), reading), (), (1,), 3)
        self.assertEqual(pair_of(pairs, told), (("a", "a", "a", "a", "x"), ("b", "b", "b", "b")))

    def test_arguments_by_name_and_equal_calls(self):
        told = grown(times=2, inner=(0,), outer=(), reading=READING, pairs=LOOPS)
        again = Pairs(LOOPS.kinds, tuple(list(LOOPS.rules)))
        self.assertEqual(told, grown(again, (1, (1, LEAF, LEAF), (3, (4, (2,), LEAF))), (), (0,), 2))
        self.assertNotEqual(told, READING)
        self.assertEqual(READING, (1, (1, LEAF, LEAF), (3, (4, (2,), LEAF))))

    def test_tuples_of_a_class(self):
        def rows(value):
            return Row([rows(part) for part in value]) if isinstance(value, tuple) else value
        for times in range(5):
            for outer, inner in (((), (0,)), ((1,), (1, 0, 1)), ((), (1, 0, 1)), ((0,), (0, 1))):
                told = grown(LOOPS, rows(READING), rows(outer), rows(inner), times)
                self.assertTrue(is_plain(told))
                self.assertEqual(told, grown(LOOPS, READING, outer, inner, times))

    def test_what_is_no_reading(self):
        for value in ODD_VALUES:
            self.refused(InvalidReading, value, LOOPS, value, (), (0,), 1)
            for wrong in ((1, value, LEAF), (1, LEAF, value), (3, (4, (2,), value)), (value, LEAF, LEAF)):
                self.refused(InvalidReading, wrong, LOOPS, wrong, (), (0,), 1)
        for wrong in ((1, LEAF), (1, LEAF, LEAF, LEAF), (1, (2,), LEAF), (3, LEAF), (False,), (True, LEAF, LEAF), [0], (8,),
                      (1, [0], LEAF), [1, LEAF, LEAF], (1, (False,), LEAF), (-1,), (4, LEAF, LEAF), (0, LEAF)):
            self.refused(InvalidReading, wrong, LOOPS, wrong, (), (0,), 1)

    def test_40_rules(self):
        for side in (0, 1):
            reading = (3, (4, (2,), tower(37, side)))
            self.assertEqual(rules_in(reading), 40)
            self.assertEqual(self.agrees(LOOPS, tower(39, side)), 2 * 190)
            deep = (0, 1) + (side,) * 18
            for times in range(5):
                told = grown(LOOPS, reading, (), deep, times)
                self.assertTrue(alike(told, slow_grown(reading, (), deep, times)))
                self.assertEqual(len(text_of(LOOPS, told)), 1 + 19 * times)
            self.assertEqual(rules_in(told), 1 + 4 * 39)
            # What was grown has more rules than may be grown again.
            self.refused(InvalidReading, told, LOOPS, told, (), (0, 1), 1)
            small = grown(LOOPS, reading, (), deep[:-1], 0)
            self.assertEqual(grown(LOOPS, small, (), (side,), 1), small)

    def test_41_rules_and_more(self):
        for side in (0, 1):
            for many in (41, 43, 601, 5001):
                reading = tower(many, side)
                self.refused(InvalidReading, reading, LOOPS, reading, (), (side,), 1)
            reading = (3, (4, (2,), tower(39, side)))
            self.refused(InvalidReading, reading, LOOPS, reading, (), (0, 1), 1)
        deep = nested(5000)
        self.refused(InvalidReading, deep, LOOPS, deep, (), (0,), 1)
        wide = (1, tower(19, 0), tower(21, 1))
        self.refused(InvalidReading, wide, LOOPS, wide, (), (0,), 1)
        self.assertEqual(grown(LOOPS, (1, tower(19, 0), tower(19, 1)), (), (0,), 0), tower(19, 0))

    def test_what_is_no_place(self):
        for value in ODD_VALUES:
            self.no_places(READING, (), value)
            if value != ():
                self.no_places(READING, value, (0,))
                self.no_places(READING, value, (0, 0))
                self.no_places(READING, value, value)
        for wrong in WRONG_STEPS:
            for outer, inner in (((), (wrong,)), ((), (0, wrong)), ((), (wrong, 0)), ((0,), (0, wrong)), ((wrong,), (0, 0)),
                                 ((wrong,), (wrong, 0)), ((wrong,), (wrong,)), ((1, wrong), (1, 0, 1)),
                                 ((), (1, 0, wrong)), ((1,), (1, wrong, 1)), ((1,), (wrong, 0, 1))):
                self.no_places(READING, outer, inner)

    def test_bools_are_no_steps(self):
        for outer, inner in (((), (False,)), ((False,), (0, 0)), ((False,), (False, 0)), ((1,), (True, 0, 1)),
                             ((True,), (1, 0, 1)), ((1,), (1, False, 1)), ((1,), (1, 0, True))):
            self.no_places(READING, outer, inner)

    def test_lists_are_no_places(self):
        for outer, inner in (((), [0]), ([], (0,)), ([], [0]), ([0], (0, 0)), ((0,), [0, 0]), ((), {0: 0}), ((), "0"),
                             ((), 0), (0, (0, 0)), (None, (0,)), ("", (0,))):
            self.no_places(READING, outer, inner)

    def test_places_that_are_not_there(self):
        for inner in ((0, 0, 0), (0, 0, 1), (0, 1, 0), (1, 1), (1, 0, 0, 0), (1, 0, 1, 0), (1, 0, 2), (0,) * 30000,
                      (1, 0, 1, 0, 0), (0, 2), (0, 0, 0, 0)):
            self.no_places(READING, (), inner)
            self.no_places(READING, inner, (0,))
            self.no_places(READING, inner, inner)
        self.no_places(LEAF, (), (0,))
        self.no_places(LEAF, (), ())
        self.no_places(LEAF, (0,), (0, 0))

    def test_inner_begins_with_outer_and_is_longer(self):
        for outer, inner in (((), ()), ((0,), (0,)), ((0,), ()), ((0, 0), (0,)), ((0,), (1,)), ((1,), (0, 0)),
                             ((0,), (1, 0, 1)), ((0, 1), (0, 0)), ((1,), (0, 1)), ((0, 0), (0, 1)), ((1, 0, 1), (1,)),
                             ((1, 0, 1), (1, 0, 1))):
            self.no_places(READING, outer, inner)

    def test_readings_of_another_kind(self):
        for outer, inner in (((), (1, 0)), ((), (1, 0, 0)), ((1,), (1, 0)), ((1,), (1, 0, 0)), ((1, 0), (1, 0, 1)),
                             ((1, 0), (1, 0, 0))):
            self.no_places(READING, outer, inner)

    def test_times(self):
        for times in range(5):
            grown(LOOPS, READING, (), (0,), times)
        for wrong in (-1, -2, 5, 6, 10 ** 12 - 1, True, False, None, "1", 1.0, (1,), [1], (), LOOPS, *ODD_VALUES):
            self.refused(InvalidNumber, wrong, LOOPS, READING, (), (0,), wrong)
            self.refused(InvalidNumber, wrong, LOOPS, READING, (1,), (1, 0, 1), wrong)

    def test_the_order_of_the_errors(self):
        for reading in (None, (1, LEAF), tower(41, 0)):
            for outer, inner in (((), (0,)), ((), ()), (None, None), ([], [0])):
                for times in (1, 5, True, None):
                    self.refused(InvalidReading, reading, LOOPS, reading, outer, inner, times)
        for outer, inner in (((), ()), (None, (0,)), ((), [0]), ((0,), (True,))):
            for times in (0, 5, -1, True, None):
                self.no_places(READING, outer, inner, times)

    def test_arguments_do_not_change(self):
        outer, inner = [], [0]
        self.no_places(READING, outer, inner)
        self.assertEqual((outer, inner), ([], [0]))


if __name__ == "__main__":
    unittest.main()
