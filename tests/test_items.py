import itertools
import random
import unittest

from following import are_bars, closed, items_of, wholes
from grammars import EACH_SHAPE, ODD_VALUES, SHAPES, WRONG_TEXTS, Row, all_of_kinds, drawn_pairs, is_plain, texts_of
from treestacks.errors import InvalidText, Undefined
from treestacks.items import bars, bars_hold, tally
from treestacks.pairs import Pairs
from treestacks.reading import readings, some_reading

WORDS = ("a", "b")
LONG_TEXTS = (("a", "b", "a", "b", "b"), ("a", "no", "b", "a", "a", "b"), ("b",) * 7, tuple("abbaabab"), ("zzz",) * 8)


class TestBars(unittest.TestCase):
    """[7] of the document: bars, and so (2) of its overview."""

    def told(self, pairs, text):
        items = bars(pairs, text)
        self.assertTrue(is_plain(items))
        self.assertTrue(are_bars(pairs, text, items))
        self.assertLessEqual(set(items), set(items_of(pairs.kinds, len(text))))
        self.assertIs(bars_hold(pairs, text, items), True)
        self.assertEqual(items, bars(Pairs(pairs.kinds, pairs.rules), tuple(list(text))))
        return items

    def none(self, pairs, text):
        with self.assertRaises(Undefined) as caught:
            bars(pairs, text)
        self.assertEqual(caught.exception.what, "bars")

    def agrees(self, pairs, text):
        """Whether there are bars exactly if there is no reading; also by what follows, step by step."""
        try:
            some_reading(pairs, text)
        except Undefined:
            self.told(pairs, text)
            self.assertFalse(wholes(len(text)) & set(closed(pairs, text, ())))
            return 1
        self.none(pairs, text)
        self.assertTrue(wholes(len(text)) & set(closed(pairs, text, ())))
        self.assertFalse(bars_hold(pairs, text, closed(pairs, text, ())))
        return 0

    def test_exactly_if_there_is_no_reading(self):
        many = 0
        for seed in range(60):
            pairs = drawn_pairs(seed, 1 + seed % 4, 3 + seed % 8, WORDS)
            many += sum(self.agrees(pairs, text) for text in texts_of(("a", "b", "no"), 3))
        self.assertTrue(300 < many < 2300)

    def test_exactly_if_there_is_no_reading_of_longer_texts(self):
        many = 0
        for seed in range(30):
            pairs = drawn_pairs(seed, 2 + seed % 3, 5 + seed % 6, WORDS)
            many += sum(self.agrees(pairs, text) for text in LONG_TEXTS)
        self.assertTrue(30 < many < 145)

    def test_of_no_words(self):
        for pairs in (EACH_SHAPE, Pairs(1, ((0, "left", "a"), (0, "wrap", 0, 0)))):
            self.told(pairs, ())

    def test_words_of_no_rule(self):
        pairs = Pairs(1, ((0, "left", "a"), (0, "wrap", 0, 0)))
        self.none(pairs, ("a", "a"))
        self.told(pairs, ("a", "b"))
        self.told(pairs, ("b",) * 8)

    def test_unless_it_is_a_text(self):
        for pairs in (EACH_SHAPE, Pairs(1, ((0, "left", "a"),))):
            for text in (*WRONG_TEXTS, ("a",) * 9, ("a",) * 30000):
                for function in (bars, tally):
                    with self.assertRaises(InvalidText) as caught:
                        function(pairs, text)
                    self.assertIs(caught.exception.value, text)

    def test_the_most_kinds_and_rules(self):
        shapes = SHAPES[5:]
        rules = tuple((1 + at % 39, shapes[at % 3], 1 + at * 7 % 39, 1 + at * 11 % 39) for at in range(60))
        rules += tuple((1 + at, "left" if at % 2 else "right", "a") for at in range(30))
        pairs = Pairs(40, rules)
        items = bars(pairs, ("a",) * 8)
        self.assertGreater(len(items), 3000)
        self.assertTrue(bars_hold(pairs, ("a",) * 8, items))
        for at in range(0, len(items), 500):
            self.assertFalse(bars_hold(pairs, ("a",) * 8, items[:at] + items[at + 1:]))
        whole = [item for item in items_of(40, 8) if item not in wholes(8)]
        self.assertTrue(bars_hold(pairs, ("a",) * 8, tuple(whole)))

    def test_arguments_by_name_and_tuples_of_a_class(self):
        pairs = Pairs(1, ((0, "left", "a"),))
        self.assertEqual(bars(text=("b",), pairs=pairs), bars(pairs, Row(["b"])))
        self.assertTrue(is_plain(bars(pairs, Row(["a", "a"]))))
        self.assertTrue(is_plain(tally(pairs, Row(["a"]))))
        self.assertEqual(tally(text=("a",), pairs=pairs), tally(pairs, Row(["a"])))
        self.assertIs(bars_hold(value=(), text=("b",), pairs=pairs), True)
        self.assertIs(bars_hold(pairs, Row(["a", "a"]), Row([Row(item) for item in bars(pairs, ("a", "a"))])), True)


class TestWhatFollows(unittest.TestCase):
    """[7] of the document: what follows by each shape of rule, and nothing else."""

    def follows(self, rule, members, due, text=("w", "x", "y", "z")):
        """Whether members, of kinds 1 and 2, need just the items that are due beside them."""
        pairs = Pairs(4, (rule,))
        self.assertEqual(closed(pairs, text, members), tuple(sorted({*members, *due})))
        self.assertTrue(bars_hold(pairs, text, tuple(sorted({*members, *due}))))
        for item in due:
            self.assertFalse(bars_hold(pairs, text, tuple(sorted({*members, *due} - {item}))))

    def test_left(self):
        self.follows((3, "left", "y"), (), [(3, 2, 3, 3, 3), (3, 2, 3, 4, 4)])
        self.follows((3, "left", "z"), (), [(3, 3, 4, 4, 4)])
        self.follows((3, "left", "w"), (), [(3, 0, 1, k, k) for k in (1, 2, 3, 4)])
        self.follows((3, "left", "a"), (), [])

    def test_right(self):
        self.follows((3, "right", "y"), (), [(3, 0, 0, 2, 3), (3, 1, 1, 2, 3), (3, 2, 2, 2, 3)])
        self.follows((3, "right", "w"), (), [(3, 0, 0, 0, 1)])
        self.follows((3, "right", "z"), (), [(3, i, i, 3, 4) for i in (0, 1, 2, 3)])
        self.follows((3, "right", "a"), (), [])

    def test_same(self):
        self.follows((3, "same", 1), [(1, 0, 1, 3, 4)], [(3, 0, 1, 3, 4)])
        self.follows((3, "same", 1), [(1, 2, 2, 2, 2)], [(3, 2, 2, 2, 2)])
        self.follows((3, "same", 1), [(2, 0, 1, 3, 4)], [])

    def test_first(self):
        self.follows((3, "first", 1), [(1, 0, 1, 1, 2)], [(3, 0, 2, 2, 2), (3, 0, 2, 3, 3), (3, 0, 2, 4, 4)])
        self.follows((3, "first", 1), [(1, 1, 1, 1, 4)], [(3, 1, 4, 4, 4)])
        self.follows((3, "first", 1), [(1, 2, 3, 3, 3)], [(3, 2, 3, 3, 3), (3, 2, 3, 4, 4)])
        self.follows((3, "first", 1), [(1, 3, 3, 3, 3)], [(3, 3, 3, 3, 3), (3, 3, 3, 4, 4)])
        self.follows((3, "first", 1), [(1, 0, 1, 2, 3)], [])
        self.follows((3, "first", 1), [(2, 0, 1, 1, 2)], [])

    def test_last(self):
        self.follows((3, "last", 1), [(1, 2, 3, 3, 4)], [(3, 0, 0, 2, 4), (3, 1, 1, 2, 4), (3, 2, 2, 2, 4)])
        self.follows((3, "last", 1), [(1, 0, 4, 4, 4)], [(3, 0, 0, 0, 4)])
        self.follows((3, "last", 1), [(1, 1, 1, 1, 2)], [(3, 0, 0, 1, 2), (3, 1, 1, 1, 2)])
        self.follows((3, "last", 1), [(1, 1, 1, 1, 1)], [(3, 0, 0, 1, 1), (3, 1, 1, 1, 1)])
        self.follows((3, "last", 1), [(1, 1, 2, 3, 4)], [])
        self.follows((3, "last", 1), [(2, 2, 3, 3, 4)], [])

    def test_wrap(self):
        self.follows((3, "wrap", 1, 2), [(1, 0, 1, 3, 4), (2, 1, 2, 2, 3)], [(3, 0, 2, 2, 4)])
        self.follows((3, "wrap", 1, 2), [(1, 0, 1, 3, 4), (2, 1, 1, 3, 3)], [(3, 0, 1, 3, 4)])
        self.follows((3, "wrap", 1, 2), [(1, 1, 1, 3, 3), (2, 1, 2, 3, 3)], [(3, 1, 2, 3, 3)])
        self.follows((3, "wrap", 1, 1), [(1, 1, 1, 2, 2)], [(3, 1, 1, 2, 2)])
        for other in ((2, 0, 2, 2, 3), (2, 1, 2, 2, 4), (2, 2, 2, 2, 3), (2, 1, 2, 2, 2), (1, 1, 2, 2, 3)):
            self.follows((3, "wrap", 1, 2), [(1, 0, 1, 3, 4), other], [])

    def test_ahead(self):
        self.follows((3, "ahead", 1, 2), [(1, 2, 2, 3, 4), (2, 0, 1, 1, 2)], [(3, 0, 2, 3, 4)])
        self.follows((3, "ahead", 1, 2), [(1, 2, 3, 3, 4), (2, 1, 1, 1, 2)], [(3, 1, 3, 3, 4)])
        self.follows((3, "ahead", 1, 2), [(1, 2, 3, 4, 4), (2, 2, 2, 2, 2)], [(3, 2, 3, 4, 4)])
        for other in ((2, 0, 1, 1, 1), (2, 0, 0, 1, 2), (2, 0, 1, 1, 3), (2, 4, 4, 4, 4), (1, 0, 1, 1, 2)):
            self.follows((3, "ahead", 1, 2), [(1, 2, 2, 3, 4), other], [])

    def test_behind(self):
        self.follows((3, "behind", 1, 2), [(1, 0, 1, 1, 2), (2, 2, 3, 3, 4)], [(3, 0, 1, 1, 4)])
        self.follows((3, "behind", 1, 2), [(1, 0, 1, 2, 3), (2, 3, 3, 3, 4)], [(3, 0, 1, 2, 4)])
        self.follows((3, "behind", 1, 2), [(1, 0, 0, 2, 2), (2, 2, 4, 4, 4)], [(3, 0, 0, 2, 4)])
        self.follows((3, "behind", 1, 2), [(1, 0, 1, 2, 3), (2, 3, 3, 3, 3)], [(3, 0, 1, 2, 3)])
        for other in ((2, 3, 3, 3, 4), (2, 2, 3, 4, 4), (2, 1, 1, 1, 2), (2, 0, 0, 0, 0), (1, 2, 3, 3, 4)):
            self.follows((3, "behind", 1, 2), [(1, 0, 1, 1, 2), other], [])


class TestBarsHold(unittest.TestCase):
    """[7] of the document: bars_hold, with [1], [2] and [4]."""

    pairs = Pairs(3, ((0, "wrap", 1, 2), (1, "left", "a"), (2, "right", "b"), (0, "first", 2), (1, "behind", 1, 0)))
    text = ("b", "a", "b", "a")

    def holds(self, due, value, text=text, pairs=pairs):
        self.assertIs(bars_hold(pairs, text, value), due)

    def test_all_that_follow(self):
        self.holds(True, closed(self.pairs, self.text, ()))

    def test_more_of_them_closed_again(self):
        many = 0
        for item in items_of(3, 4):
            items = closed(self.pairs, self.text, [item])
            self.holds(not wholes(4) & set(items), items)
            many += not wholes(4) & set(items)
        self.assertTrue(50 < many < 200)

    def test_all_but_those_of_the_whole_text(self):
        pairs = Pairs(2, ((0, "left", "a"), (1, "wrap", 1, 1)))
        items = tuple(item for item in items_of(2, 3) if item not in wholes(3))
        self.holds(True, items, ("a", "b", "a"), pairs)
        self.holds(False, items_of(2, 3), ("a", "b", "a"), pairs)

    def test_none(self):
        self.holds(True, (), ("c", "d"))
        self.holds(True, (), ())
        self.holds(False, ())
        self.holds(False, (), ("b", "c"))

    def test_one_left_out(self):
        items = bars(self.pairs, self.text)
        for at in range(len(items)):
            self.holds(False, items[:at] + items[at + 1:])

    def test_out_of_order_or_twice(self):
        items = bars(self.pairs, self.text)
        for at in range(len(items) - 1):
            self.holds(False, items[:at] + (items[at + 1], items[at]) + items[at + 2:])
            self.holds(False, items[:at] + (items[at],) + items[at:])
        self.holds(False, items[::-1])
        self.holds(False, items + items)

    def test_the_whole_text_in_it(self):
        items = bars(self.pairs, self.text)
        for whole in wholes(4):
            self.holds(False, closed(self.pairs, self.text, [*items, whole]))
        self.holds(False, ((0, 0, 0, 0, 0),), ())
        self.holds(True, ((1, 0, 0, 0, 0),), (), Pairs(2, ((0, "left", "a"),)))
        self.holds(False, ((1, 0, 0, 0, 0),), (), Pairs(2, ((0, "same", 1),)))

    def test_changed_at_one_place(self):
        items = bars(self.pairs, self.text)
        for at, place, more in itertools.product(range(len(items)), range(5), (-1, 1, 4)):
            item = items[at][:place] + (items[at][place] + more,) + items[at][place + 1:]
            changed = items[:at] + (item,) + items[at + 1:]
            right = item in items_of(3, 4) and are_bars(self.pairs, self.text, changed)
            self.holds(right, changed)

    def test_items_out_of_bounds(self):
        quiet = Pairs(2, ((0, "left", "a"),))
        for item in ((-1, 0, 0, 0, 0), (2, 0, 0, 0, 0), (1, -1, 0, 0, 0), (1, 1, 0, 2, 2), (1, 0, 2, 1, 2),
                     (1, 0, 0, 2, 1), (1, 0, 0, 0, 3), (1, 0, 0, 3, 3), (1, 3, 3, 3, 3), (10 ** 11, 0, 0, 0, 0)):
            self.holds(False, (item,), ("b", "b"), quiet)
        for item in ((1, 0, 0, 0, 0), (1, 2, 2, 2, 2), (1, 0, 2, 2, 2), (0, 0, 0, 1, 2), (1, 0, 0, 0, 2)):
            self.holds(True, (item,), ("b", "b"), quiet)

    def test_no_items(self):
        quiet = Pairs(2, ((0, "left", "a"),))
        for item in ((1, 0, 0, 0), (1, 0, 0, 0, 0, 0), [1, 0, 0, 0, 0], (True, 0, 0, 0, 0), (1, False, 0, 0, 0),
                     (1, 0, 0, 0, True), (1, 0, 0, True, 1), (1, 0, 0, 0, None), (1, 0, 0, 0, "0"), (1.0, 0, 0, 0, 0),
                     ((1, 0, 0, 0, 0),), (), "10000", (1, (0, 0, 0, 0)), (1, 0, 0, 0, (0,)), (1, 0, 0, 0, quiet)):
            self.holds(False, (item,), ("b", "b"), quiet)
            self.holds(False, ((0, 0, 0, 0, 0), item), ("b", "b"), quiet)
            self.holds(False, (item, (1, 2, 2, 2, 2)), ("b", "b"), quiet)

    def test_bools_and_lists_in_bars(self):
        items = bars(self.pairs, self.text)
        self.holds(False, list(items))
        for at, item in enumerate(items):
            self.holds(False, items[:at] + (list(item),) + items[at + 1:])
            for place in range(5):
                if item[place] in (0, 1):
                    wrong = item[:place] + (item[place] == 1,) + item[place + 1:]
                    self.holds(False, items[:at] + (wrong,) + items[at + 1:])

    def test_of_other_texts_and_pairs(self):
        texts = [text for text in texts_of(("a", "b"), 4) if not wholes(len(text)) & set(closed(self.pairs, text, ()))]
        for one, other in itertools.product(texts, repeat=2):
            items = bars(self.pairs, one)
            self.holds(bool(set(items) <= set(items_of(3, len(other))) and are_bars(self.pairs, other, items)),
                       items, other)
        fewer = Pairs(3, self.pairs.rules[:3])
        self.holds(True, bars(self.pairs, self.text), self.text, fewer)
        self.holds(False, bars(fewer, self.text))

    def test_any_values(self):
        items = bars(self.pairs, self.text)
        for value in (*WRONG_TEXTS, *ODD_VALUES, ("a",) * 9, self.pairs, items[0], (items,)):
            self.holds(False, value, ("c",))
            self.holds(False, value)
            self.holds(False, items, value)
            self.holds(False, (), value)
            self.holds(False, value, value)

    def test_large_values(self):
        self.holds(False, tuple(items_of(3, 8)) * 20)
        self.holds(False, ((1, 0, 0, 0, 0),) * 30000, ("c",))
        self.holds(False, tuple((1, 0, 0, 0, at) for at in range(10000)), ("c",) * 8)

    def test_any_items(self):
        many = 0
        for seed in range(60):
            chance = random.Random(seed)
            pairs = drawn_pairs(seed, 1 + seed % 3, 3 + seed % 6, WORDS)
            for text in texts_of(WORDS, 3):
                some = chance.sample(items_of(pairs.kinds, len(text)), min(len(text), 2))
                items = closed(pairs, text, some)
                for value in (tuple(sorted(some)), items, items[1:], items[:-1]):
                    due = are_bars(pairs, text, value)
                    self.holds(due, value, text, pairs)
                    many += due
        self.assertTrue(200 < many < 3000)


class TestTally(unittest.TestCase):
    """[7] of the document: tally, and so (8) of its overview."""

    def agrees(self, pairs, text, known):
        """Whether tally tells of text what is told by known, for each kind all readings with their pairs."""
        due = []
        for item in items_of(pairs.kinds, len(text)):
            kind, i, j, k, l = item
            many = len([1 for _, pair in known[kind] if pair == (text[i:j], text[k:l])])
            due += [(item, many)] if many else []
        told = tally(pairs, text)
        self.assertEqual(told, tuple(due))
        self.assertTrue(is_plain(told))
        whole = sum(many for item, many in told if item in wholes(len(text)))
        self.assertEqual(whole, len([1 for _, (one, other) in known[0] if one + other == text]))
        return whole

    def test_each_shape(self):
        known = all_of_kinds(EACH_SHAPE, 5)
        for text in (("a", "b"), ("c", "d", "a", "b"), ("a", "c", "d", "b"), ("a", "b", "c", "d"), tuple("abcda")):
            self.agrees(EACH_SHAPE, text, known)

    def test_one_rule(self):
        pairs = Pairs(2, ((1, "left", "a"),))
        self.assertEqual(tally(pairs, ("a", "b")), (((1, 0, 1, 1, 1), 1), ((1, 0, 1, 2, 2), 1)))
        self.assertEqual(tally(pairs, ("b",)), ())
        self.assertEqual(tally(pairs, ()), ())

    def test_by_a_slow_count(self):
        for seed in range(120):
            pairs = drawn_pairs(seed, 1 + seed % 4, 3 + seed % 6, WORDS)
            known = all_of_kinds(pairs, 3)
            for text in texts_of(("a", "b", "no"), 3):
                whole = self.agrees(pairs, text, known)
                if len(pairs.rules) <= 6:
                    self.assertEqual(whole, len(readings(pairs, text)))

    def test_by_a_slow_count_of_longer_texts(self):
        for seed in range(12):
            pairs = drawn_pairs(seed, 3, 6, WORDS)
            known = all_of_kinds(pairs, 4)
            for text in texts_of(WORDS, 4):
                self.agrees(pairs, text, known)

    def test_texts_of_8_words(self):
        for shape in SHAPES[5:]:
            pairs = Pairs(2, ((0, "left", "a"), (0, shape, 0, 0), (1, "last", 0)))
            known = all_of_kinds(pairs, 8)
            for text in (("a",) * 8, ("a",) * 7 + ("b",), ("a",) * 5):
                self.agrees(pairs, text, known)

    def test_large_numbers(self):
        pairs = Pairs(1, ((0, "left", "a"),) * 30 + ((0, "wrap", 0, 0),) * 60)
        told = tally(pairs, ("a",) * 8)
        self.assertEqual(told[-1][1], 30)
        # 429 ways to put 8 together by two, each of 8 rules with a word and of 7 others.
        self.assertEqual(sum(many for item, many in told if item in wholes(8)), 429 * 30 ** 8 * 60 ** 7)

    def test_the_most_kinds_and_rules(self):
        shapes = SHAPES[5:]
        rules = tuple((at % 40, shapes[at % 3], at * 7 % 40, at * 11 % 40) for at in range(50))
        pairs = Pairs(40, rules + tuple((at, "right", "a") for at in range(40)))
        told = dict(tally(pairs, ("a",) * 8))
        whole = {item for item in told if item in wholes(8)}
        self.assertEqual(whole, wholes(8) & set(closed(Pairs(40, pairs.rules), ("a",) * 8, ())))
        self.assertTrue(all(many > 0 for many in told.values()))


if __name__ == "__main__":
    unittest.main()
