import itertools
import unittest

from desks import SlowDesk, act, chances, drawn_deed, led, view
from following import closed, wholes
from grammars import EACH_SHAPE, alike, all_of_kinds, drawn_pairs, has_reading, is_plain, texts_of
from groves import all_tree_readings, drawn_trees, text_given
from judging import Judge, changes
from measuring import drawn_lengths, slow_lengths, slow_loop_holds, slow_texts, some_loops
from piles import all_runs, rules_in
from treestacks.claims import answer_of, question_of
from treestacks.desk import Desk, same_state
from treestacks.errors import GraftError, InvalidPlaces, Undefined
from treestacks.growing import grown
from treestacks.items import bars, bars_hold, tally
from treestacks.leading import (
    pairs_of, reading_from_trees, reading_of_tree, tree_of_reading, tree_reading_of, trees_of,
)
from treestacks.lengths import four_parts, lengths, longest, loop, loop_holds, texts
from treestacks.pairs import Pairs, kind_of, pair_of, text_of
from treestacks.papers import claim_holds, paper_of
from treestacks.reading import readings, some_reading
from treestacks.runs import reading_of_run, run_of, stacks_of
from treestacks.stacks import run_text
from treestacks.trees import tree_readings, tree_text

WORDS = ("a", "b")
ASKED = [("longest",)] + [(word, text) for text in texts_of(WORDS, 2) for word in ("text", "readings")]


def places_in(reading):
    """All places in a reading."""
    return [()] + [(step, *place) for step, part in enumerate(reading[1:]) for place in places_in(part)]


def at(reading, place):
    """What stands at place."""
    return reading if place == () else at(reading[1 + place[0]], place[1:])


def told_or_not(function, *arguments):
    """What a call returns, or its error's class and arguments."""
    try:
        return function(*arguments)
    except GraftError as error:
        return type(error), vars(error)


class TestPromises(unittest.TestCase):
    """(1) to (11) of the overview of the document, over the whole program, with drawn grammars."""

    def undefined(self, what, function, *arguments):
        with self.assertRaises(Undefined) as caught:
            function(*arguments)
        self.assertEqual(caught.exception.what, what)

    def test_1_all_readings(self):
        many = 0
        for seed in range(1000, 1100):
            pairs = drawn_pairs(seed, 1 + seed % 4, 2 + seed % 5, WORDS)
            known = all_of_kinds(pairs, 3)[0]
            for text in texts_of(WORDS, 3):
                due = sorted(reading for reading, (first, second) in known if first + second == text)
                self.assertEqual(readings(pairs, text), tuple(due))
                many += len(due)
        self.assertGreater(many, 300)

    def test_2_readings_or_bars(self):
        for seed in range(1000, 1050):
            pairs = drawn_pairs(seed, 1 + seed % 4, 4 + seed % 7, WORDS)
            for text in texts_of(WORDS, 4):
                if has_reading(pairs, text):
                    reading = some_reading(pairs, text)
                    self.assertEqual((kind_of(pairs, reading), text_of(pairs, reading)), (0, text))
                    self.undefined("bars", bars, pairs, text)
                    self.assertTrue(wholes(len(text)) & set(closed(pairs, text, ())))
                    self.assertIs(bars_hold(pairs, text, closed(pairs, text, ())), False)
                else:
                    self.undefined("reading", some_reading, pairs, text)
                    self.assertIs(bars_hold(pairs, text, bars(pairs, text)), True)
                    self.assertIs(bars_hold(pairs, text, closed(pairs, text, ())), True)

    def test_3_all_tree_readings(self):
        many = 0
        for seed in range(1000, 1100):
            trees = drawn_trees(seed, 1 + seed % 4, 2 + seed % 5, WORDS, 3 + seed % 8)
            known = all_tree_readings(trees, 3)[0]
            for text in texts_of(WORDS, 3):
                due = sorted(reading for reading, words in known.items() if text_given(words) == text)
                self.assertEqual(tree_readings(trees, text), tuple(due))
                many += len(due)
        self.assertGreater(many, 300)

    def test_4_pairs_led_into_trees(self):
        many = 0
        for seed in range(1000, 1080):
            pairs = drawn_pairs(seed, 1 + seed % 8, 2 + seed % 8, WORDS)
            trees = trees_of(pairs)
            for kind, known in enumerate(all_of_kinds(pairs, 3)):
                due = {reading: words for reading, words in all_tree_readings(trees, 3)[kind].items()}
                led_to = {}
                for reading, (first, second) in known:
                    there = tree_reading_of(pairs, reading)
                    led_to[there] = (*first, "_", *second)
                    self.assertEqual(reading_from_trees(pairs, there), reading)
                    self.assertEqual(tree_text(trees, there), first + second)
                self.assertEqual(led_to, due)
                many += len(led_to)
        self.assertGreater(many, 400)

    def test_4_trees_led_into_pairs(self):
        many = 0
        for seed in range(1000, 1080):
            trees = drawn_trees(seed, 1 + seed % 4, 2 + seed % 4, WORDS, 3 + seed % 7)
            pairs = told_or_not(pairs_of, trees)
            if not isinstance(pairs, Pairs):
                continue
            known = all_of_kinds(pairs, 3)
            for kind, words in enumerate(all_tree_readings(trees, 3)):
                led_to = {reading_of_tree(trees, reading): reading for reading in words}
                self.assertEqual(set(led_to), {reading for reading, _ in known[kind]})
                for there, reading in led_to.items():
                    self.assertEqual(tree_of_reading(trees, there), reading)
                    first, second = pair_of(pairs, there)
                    self.assertEqual((*first, "_", *second), words[reading])
                many += len(led_to)
        self.assertGreater(many, 150)

    def test_5_trees_led_into_stacks(self):
        many = 0
        for seed in range(1000, 1080):
            trees = drawn_trees(seed, 1 + seed % 3, 2 + seed % 4, WORDS, 3 + seed % 4)
            stacks = stacks_of(trees)
            led_to = {run_of(trees, reading): reading for reading in all_tree_readings(trees, 3)[0]}
            for run, reading in led_to.items():
                self.assertEqual(reading_of_run(trees, run), reading)
                self.assertEqual(run_text(stacks, run), tree_text(trees, reading))
            self.assertEqual(set(all_runs(stacks, 20, 3)), {run for run in led_to if rules_in(run) <= 20})
            many += len(led_to)
        self.assertGreater(many, 150)

    def test_6_readings_grown(self):
        many = 0
        for seed in range(1000, 1060):
            pairs = drawn_pairs(seed, 1 + seed % 3, 3 + seed % 5, WORDS)
            for reading, _ in [one for known in all_of_kinds(pairs, 4) for one in known[-4:] if rules_in_pairs(one[0]) <= 40]:
                for outer, inner in itertools.product(places_in(reading), repeat=2):
                    within = len(inner) > len(outer) and inner[:len(outer)] == outer
                    if not within or kind_of(pairs, at(reading, outer)) != kind_of(pairs, at(reading, inner)):
                        self.assertRaises(InvalidPlaces, grown, pairs, reading, outer, inner, 2)
                        continue
                    more = len(text_of(pairs, at(reading, outer))) - len(text_of(pairs, at(reading, inner)))
                    self.assertGreaterEqual(more, 1)
                    for times in range(5):
                        told = grown(pairs, reading, outer, inner, times)
                        self.assertEqual(kind_of(pairs, told), kind_of(pairs, reading))
                        words = len(text_of(pairs, reading)) + (times - 1) * more
                        self.assertEqual(len(text_of(pairs, told)), words)
                        self.assertEqual(told == reading, times == 1)
                    many += 1
        self.assertGreater(many, 100)

    def test_7_more_words_than_any_number_or_the_greatest(self):
        seen = set()
        for seed in range(1000, 1150):
            pairs = drawn_lengths(seed, 1 + seed % 6, 2 + seed * 7 % 9, seed % 5 * 3)
            due = slow_lengths(pairs)
            self.assertEqual(lengths(pairs), due)
            seen.add(min(due[0], 3))
            if due[0] == -1:
                self.undefined("text", longest, pairs)
            else:
                self.assertEqual(longest(pairs), None if due[0] == -2 else due[0])
            if due[0] == -2:
                self.assertTrue(slow_loop_holds(pairs, loop(pairs)))
                self.assertIs(loop_holds(pairs, loop(pairs)), True)
            else:
                self.undefined("loop", loop, pairs)
                self.assertEqual(some_loops(pairs, 3), [])
        self.assertLessEqual({-2, -1, 1, 2, 3}, seen)

    def test_8_numbers_of_readings_and_texts(self):
        for seed in range(1000, 1060):
            pairs = drawn_pairs(seed, 1 + seed % 4, 3 + seed % 6, WORDS)
            judge = Judge(pairs, 3)
            for text in texts_of(WORDS, 3):
                told = tally(pairs, text)
                self.assertEqual(told, judge.tally(text))
                many = sum(number for item, number in told if item in wholes(len(text)))
                self.assertEqual(many, len(judge.readings(text)))
            for words in range(5):
                self.assertEqual(texts(pairs, words), slow_texts(pairs, words))

    def test_9_four_parts(self):
        known = all_of_kinds(four_parts(), 12)[0]
        due = [tuple("a" * many + "b" * many + "c" * many + "d" * many) for many in (1, 2, 3)]
        self.assertEqual(sorted(first + second for _, (first, second) in known), sorted(due))
        for words in range(5):
            self.assertEqual(texts(four_parts(), words), tuple(text for text in due if len(text) == words))

    def test_10_claims_and_papers(self):
        right = wrong = 0
        for seed in range(1000, 1025):
            pairs = drawn_pairs(seed, 1 + seed % 3, 3 + seed % 4, WORDS)
            judge = Judge(pairs, 2)
            claims = [(word, text) for text in texts_of(WORDS, 2) for word in ("told", "not told")]
            claims += [("readings", text, many) for text in texts_of(WORDS, 2) for many in range(4)]
            claims += [("any",), ("nothing",), *[("longest", many) for many in range(4)]]
            papers = [judge.lengths, ()] + [judge.tally(text) for text in texts_of(WORDS, 2)]
            papers += [reading for text in texts_of(WORDS, 2) for reading in judge.readings(text)]
            papers += [closed(pairs, text, ()) for text in texts_of(WORDS, 2)] + some_loops(pairs, 2)[:5]
            papers += [changed for paper in papers[:6] for changed in list(changes(paper))[::5]]
            for claim in claims:
                question = question_of(pairs, claim)
                paper = paper_of(pairs, question)
                true = answer_of(pairs, question) == claim
                self.assertIs(claim_holds(pairs, claim, paper), true)
                self.assertTrue(judge.holds(answer_of(pairs, question), paper))
                for other in papers:
                    holds = claim_holds(pairs, claim, other)
                    self.assertIs(holds, judge.holds(claim, other))
                    self.assertTrue(true or not holds)
                    right += holds
                    wrong += not holds
        self.assertGreater(right, 300)
        self.assertGreater(wrong, 10000)

    def test_11_desks(self):
        for seed in range(1000, 1020):
            chance = chances(seed)
            start = drawn_pairs(seed, 1 + seed % 4, 3 + seed % 6, WORDS)
            desk, slow, other = Desk(start), SlowDesk(start), led(start, ("watch", ("longest",)), ("take", 0), ("undo",))
            before = view(other)
            for _ in range(60):
                deed = drawn_deed(chance, desk.pairs, ASKED[:8], 15)
                due = slow.refuses(*deed)
                shown = view(desk)
                error = act(desk, *deed)
                if due is not None:
                    self.assertIs(type(error), due[0])
                    self.assertEqual(view(desk), shown)
                    continue
                self.assertIsNone(error)
                slow.do(*deed)
                pairs, watched = slow.state()
                kept = [(question, *slow.kept[question]) for question in watched]
                self.assertEqual(view(desk), (pairs.kinds, pairs.rules, watched, len(slow.done), slow.told, kept))
                for question in watched:
                    self.assertEqual(desk.claim(question), answer_of(pairs, question))
                    self.assertIs(claim_holds(pairs, desk.claim(question), desk.paper(question)), True)
            self.assertEqual(view(other), before)


class TestTheWholeProgram(unittest.TestCase):
    """[1] and [2] of the document, over the whole program."""

    def calls(self, pairs, trees):
        """What many functions return for these pairs and trees, or raise."""
        told = []
        for text in ((), ("a",), ("a", "b"), ("b", "a", "a"), ("a",) * 8, ("A",), ["a"]):
            for function in (readings, some_reading, bars, tally):
                told.append(told_or_not(function, pairs, text))
            told.append(told_or_not(tree_readings, trees, text))
            for word in ("text", "readings"):
                told += [told_or_not(answer_of, pairs, (word, text)), told_or_not(paper_of, pairs, (word, text))]
        for function in (lengths, longest, loop, trees_of):
            told.append(told_or_not(function, pairs))
        for many in (-1, 0, 1, 2, 3, 4, 5, True):
            told.append(told_or_not(texts, pairs, many))
        for function in (pairs_of, stacks_of):
            told.append(told_or_not(function, trees))
        for reading in told_or_not(tree_readings, trees, ("a", "b")):
            told += [told_or_not(function, trees, reading) for function in (tree_text, reading_of_tree, run_of)]
        told.append(told_or_not(answer_of, pairs, ("longest",)))
        told.append(told_or_not(paper_of, pairs, ("longest",)))
        return told

    def made_of(self, seed):
        """Pairs and trees made anew, equal for equal seeds."""
        return drawn_pairs(seed, 1 + seed % 3, 2 + seed % 8, WORDS), drawn_trees(seed, 1 + seed % 3, 2 + seed % 5, WORDS, 6)

    def test_two_grammars_asked_by_turns(self):
        first = {seed: self.calls(*self.made_of(seed)) for seed in range(30)}
        for seed in (*reversed(range(30)), *range(30)):
            for one, other in zip(self.calls(*self.made_of(seed)), first[seed], strict=True):
                self.assertTrue(one == other)

    def test_what_is_returned_is_plain(self):
        for seed in range(40):
            for told in self.calls(*self.made_of(seed)):
                if isinstance(told, tuple) and not (told and isinstance(told[0], type)):
                    self.assertTrue(is_plain(told))
                elif told is not None and not isinstance(told, tuple):
                    self.assertTrue(type(told) is int or type(told).__module__.startswith("treestacks."))

    def test_objects_are_not_iterable_and_equal_to_their_own_kind_only(self):
        pairs, trees = self.made_of(5)
        made = [pairs, trees, stacks_of(trees), Desk(pairs)]
        for one, other in itertools.product(made, repeat=2):
            self.assertEqual(one == other, one is other)
            self.assertEqual(one != other, one is not other)
        for one in made:
            self.assertRaises(TypeError, iter, one)
            self.assertRaises(TypeError, list, one)
            self.assertFalse(hasattr(one, "__getitem__") or hasattr(one, "__len__") or hasattr(one, "__iter__"))

    def test_objects_do_not_change_by_being_asked(self):
        for seed in range(20):
            pairs, trees = self.made_of(seed)
            kept = (pairs.kinds, pairs.rules, trees.kinds, trees.trees)
            self.calls(pairs, trees)
            self.assertTrue(alike((pairs.kinds, pairs.rules, trees.kinds, trees.trees), kept))
            self.assertEqual(sorted(vars(pairs)), ["kinds", "rules"])
            self.assertEqual(sorted(vars(trees)), ["kinds", "trees"])

    def test_attributes_are_set_when_an_object_is_created(self):
        self.assertLessEqual({"pairs", "watched", "many"}, set(vars(Desk(EACH_SHAPE))))
        self.assertEqual(set(vars(stacks_of(self.made_of(1)[1]))), {"rules"})

    def test_what_the_package_tells_whether_is_a_bool(self):
        pairs, _ = self.made_of(3)
        for told in (bars_hold(pairs, ("a",), ()), loop_holds(pairs, ()), claim_holds(pairs, ("any",), ()),
                     same_state(Desk(pairs), Desk(pairs)), bars_hold(pairs, None, None), claim_holds(pairs, None, None)):
            self.assertIs(type(told), bool)


def rules_in_pairs(reading):
    """How many rules a reading has."""
    return 1 + sum(rules_in_pairs(part) for part in reading[1:])


if __name__ == "__main__":
    unittest.main()
