"""Sections 3 and 5: judges, words, the next state and the reached states."""

import copy
import itertools
import unittest

from leastahead.errors import NoInput, NoOutput, NoState
from leastahead.judges import (
    input_count, is_input_word, is_judge, is_output_word, next_state, output_count, reached_states,
)
from tests.samples import (
    COPY, FAR, GREAT, NEXT, NONE, SPARSE, STRANGE, WALK, entry_paths, nested, part_at, random_judges, replaced,
    row_paths, state_paths, uniform,
)

SAMPLES = [NEXT, FAR, WALK, COPY, NONE, SPARSE] + random_judges(40, 1)


class IsJudge(unittest.TestCase):
    def assert_no_judge(self, value):
        self.assertIs(is_judge(value), False, value)

    def test_examples(self):
        self.assertEqual([is_judge(NEXT), is_judge(((),)), is_judge((((1,),),))], [True, False, False])

    def test_samples(self):
        for judge in SAMPLES:
            self.assertIs(is_judge(judge), True, judge)
            self.assertIs(is_judge(value=judge), True)

    def test_every_size(self):
        for states, inputs, outputs in itertools.product(range(11), range(7), range(7)):
            fits = 1 <= states <= 8 and 1 <= inputs <= 4 and 1 <= outputs <= 4
            for entry in (None, 0, max(states - 1, 0)):
                value = uniform(states, inputs, outputs, entry)
                self.assertIs(is_judge(value), fits, (states, inputs, outputs))

    def test_far_too_many(self):
        self.assert_no_judge(uniform(1000, 1, 1, 0))
        self.assert_no_judge(uniform(1, 1000, 1, 0))
        self.assert_no_judge(uniform(1, 1, 1000, 0))

    def test_empty_parts(self):
        for value in ((), ((),), (((),),), ((), ()), (((), ()),), (((),), ((),))):
            self.assert_no_judge(value)
        for judge in SAMPLES:
            for path in state_paths(judge) + row_paths(judge):
                self.assert_no_judge(replaced(judge, path, ()))

    def test_one_row_longer_or_shorter(self):
        for judge in SAMPLES:
            for path in row_paths(judge):
                if len(row_paths(judge)) > 1:
                    self.assert_no_judge(replaced(judge, path, part_at(judge, path) + (0,)))
                    self.assert_no_judge(replaced(judge, path, part_at(judge, path)[1:]))

    def test_one_state_with_more_or_fewer_rows(self):
        for judge in SAMPLES:
            for path in state_paths(judge):
                if len(judge) > 1:
                    state = part_at(judge, path)
                    self.assert_no_judge(replaced(judge, path, state + state[:1]))
                    self.assert_no_judge(replaced(judge, path, state[1:]))

    def test_entries_at_the_edges(self):
        for judge in SAMPLES:
            for path in entry_paths(judge):
                for entry in (None, 0, len(judge) - 1):
                    self.assertIs(is_judge(replaced(judge, path, entry)), True)
                for entry in (-1, len(judge), len(judge) + 1, -GREAT, GREAT):
                    self.assert_no_judge(replaced(judge, path, entry))

    def test_entries_of_other_kinds(self):
        for judge in (NEXT, COPY, WALK):
            for path in entry_paths(judge):
                for entry in STRANGE:
                    if entry is not None:
                        self.assert_no_judge(replaced(judge, path, entry))

    def test_booleans_are_no_entries(self):
        for entry in (True, False):
            self.assert_no_judge(uniform(1, 1, 1, entry))
            self.assert_no_judge(uniform(2, 1, 1, entry))

    def test_rows_and_states_of_other_kinds(self):
        for judge in (NEXT, FAR):
            for path in state_paths(judge) + row_paths(judge):
                for value in STRANGE + ("12", "ab", {0: 0, 1: 1}, 0, 1):
                    self.assert_no_judge(replaced(judge, path, value))

    def test_a_list_at_each_depth(self):
        for judge in SAMPLES:
            self.assert_no_judge(list(judge))
            for path in state_paths(judge) + row_paths(judge):
                self.assert_no_judge(replaced(judge, path, list(part_at(judge, path))))

    def test_other_values(self):
        for value in STRANGE + (0, 1, 8, (0, 1), "((0,),)", [[[0]]], {0: {0: {0: 0}}}):
            self.assert_no_judge(value)

    def test_depths(self):
        for depth in range(21):
            self.assertIs(is_judge(nested("tuple", depth)), depth == 3)
            self.assert_no_judge(nested("list", depth))
            self.assert_no_judge(nested("dict", depth))

    def test_the_value_is_not_changed(self):
        for value in STRANGE + tuple(SAMPLES):
            before = copy.deepcopy(value)
            is_judge(value)
            self.assertEqual(value, before)


class Counts(unittest.TestCase):
    def test_examples(self):
        self.assertEqual([input_count(NEXT), output_count(NEXT)], [2, 2])
        self.assertEqual([input_count(FAR), output_count(FAR)], [3, 2])
        self.assertEqual([input_count(SPARSE), output_count(SPARSE)], [1, 2])

    def test_every_size(self):
        for states, inputs, outputs in itertools.product(range(1, 9), range(1, 5), range(1, 5)):
            judge = uniform(states, inputs, outputs, None)
            self.assertEqual((input_count(judge), output_count(judge)), (inputs, outputs))
            self.assertEqual((input_count(judge=judge), output_count(judge=judge)), (inputs, outputs))


class Words(unittest.TestCase):
    # More input letters than output letters, so that the two functions differ.
    judge = uniform(1, 3, 2, 0)

    def both(self, value):
        return [is_input_word(self.judge, value), is_output_word(self.judge, value)]

    def test_short_words(self):
        self.assertEqual(self.both(()), [True, True])
        self.assertEqual(self.both((0,)), [True, True])
        self.assertEqual(self.both((1, 0, 1)), [True, True])
        self.assertEqual(self.both((0, 2)), [True, False])
        self.assertEqual(self.both((0, 3)), [False, False])
        other = uniform(1, 2, 3, 0)
        self.assertEqual([is_input_word(other, (0, 2)), is_output_word(other, (0, 2))], [False, True])

    def test_every_number_of_letters(self):
        for inputs, outputs, letter in itertools.product(range(1, 5), range(1, 5), range(-1, 6)):
            judge = uniform(2, inputs, outputs, 1)
            self.assertIs(is_input_word(judge, (letter,)), 0 <= letter < inputs)
            self.assertIs(is_output_word(judge, (letter,)), 0 <= letter < outputs)

    def test_lengths(self):
        for length, fits in ((0, True), (1, True), (399, True), (400, True), (401, False), (2000, False)):
            for letter in (0, 1):
                self.assertEqual(self.both((letter,) * length), [fits, fits], length)

    def test_one_wrong_letter_anywhere(self):
        for length in (1, 2, 399, 400):
            for at in sorted({0, length // 2, length - 1}):
                for letter in (-1, 3, GREAT, -GREAT, True, False, None, "0", (0,), [0], {0: 0}, ()):
                    self.assertEqual(self.both(replaced((1,) * length, (at,), letter)), [False, False])

    def test_lists_and_other_values(self):
        for value in STRANGE + (0, 1, [0, 1], [0] * 400, "01", {0: 0, 1: 1}):
            self.assertEqual(self.both(value), [False, False], value)

    def test_by_name(self):
        self.assertIs(is_input_word(value=(2,), judge=self.judge), True)
        self.assertIs(is_output_word(value=(2,), judge=self.judge), False)

    def test_the_value_is_not_changed(self):
        for value in STRANGE:
            before = copy.deepcopy(value)
            self.both(value)
            self.assertEqual(value, before)


class NextState(unittest.TestCase):
    def assert_raises(self, error_class, argument, value, call):
        with self.assertRaises(error_class) as caught:
            next_state(*call)
        self.assertIs(type(caught.exception), error_class)
        self.assertIs(getattr(caught.exception, argument), value)

    def test_examples(self):
        self.assertEqual([next_state(NEXT, 0, 1, 1), next_state(NEXT, 1, 1, 0)], [2, None])
        self.assert_raises(NoInput, "x", 2, (NEXT, 0, 2, 2))

    def test_every_place(self):
        for judge in SAMPLES:
            for state, x, y in entry_paths(judge):
                self.assertEqual(next_state(judge, state, x, y), judge[state][x][y])
                self.assertEqual(next_state(y=y, x=x, state=state, judge=judge), judge[state][x][y])

    def test_one_wrong_argument(self):
        for wrong in STRANGE + (3, 4):
            self.assert_raises(NoState, "state", wrong, (FAR, wrong, 1, 1))
            self.assert_raises(NoInput, "x", wrong, (FAR, 1, wrong, 1))
            self.assert_raises(NoOutput, "y", wrong, (FAR, 1, 1, wrong))
        self.assert_raises(NoOutput, "y", 2, (FAR, 2, 2, 2))

    def test_the_first_beyond_the_last(self):
        for judge in SAMPLES:
            states, inputs, outputs = len(judge), len(judge[0]), len(judge[0][0])
            last = (states - 1, inputs - 1, outputs - 1)
            self.assertEqual(next_state(judge, *last), judge[-1][-1][-1])
            self.assert_raises(NoState, "state", states, (judge, states) + last[1:])
            self.assert_raises(NoInput, "x", inputs, (judge, last[0], inputs, last[2]))
            self.assert_raises(NoOutput, "y", outputs, (judge,) + last[:2] + (outputs,))

    def test_several_wrong_arguments(self):
        for one, two, three in itertools.product(STRANGE, STRANGE, (-1, 3, True, [0], None)):
            self.assert_raises(NoState, "state", one, (FAR, one, two, three))
            self.assert_raises(NoState, "state", one, (FAR, one, 0, three))
            self.assert_raises(NoState, "state", one, (FAR, one, two, 0))
            self.assert_raises(NoInput, "x", two, (FAR, 0, two, three))

    def test_a_wrong_argument_by_name(self):
        with self.assertRaises(NoOutput) as caught:
            next_state(judge=FAR, state=0, x=0, y="0")
        self.assertEqual(caught.exception.y, "0")

    def test_arguments_are_not_changed(self):
        wrong = {"a": [None, (True, [1])]}
        for call in ((FAR, wrong, 0, 0), (FAR, 0, wrong, 0), (FAR, 0, 0, wrong)):
            with self.assertRaises((NoState, NoInput, NoOutput)):
                next_state(*call)
        self.assertEqual(wrong, {"a": [None, (True, [1])]})


def plainly_reached(judge):
    """The states to which output words of up to 8 letters lead; longer ones lead to no others."""
    here = {0}
    for length in range(8):
        here = here | {entry for state in here for row in judge[state] for entry in row if entry is not None}
    return tuple(sorted(here))


class ReachedStates(unittest.TestCase):
    def test_all_reached(self):
        self.assertEqual(reached_states(NEXT), (0, 1, 2))
        self.assertEqual(reached_states(FAR), (0, 1, 2))
        self.assertEqual(reached_states(WALK), (0, 1, 2))

    def test_only_the_start(self):
        self.assertEqual(reached_states(NONE), (0,))
        self.assertEqual(reached_states(COPY), (0,))
        self.assertEqual(reached_states((((None,),), ((0,),))), (0,))
        self.assertEqual(reached_states((((0,),), ((2,),), ((1,),))), (0,))

    def test_a_chain_of_eight(self):
        chain = tuple([((min(at + 1, 7),),) for at in range(8)])
        self.assertEqual(reached_states(chain), (0, 1, 2, 3, 4, 5, 6, 7))

    def test_reached_in_descending_sequence(self):
        self.assertEqual(reached_states((((3,),), ((1,),), ((0,),), ((2,),))), (0, 2, 3))
        down = (((7,),), ((0,),)) + tuple([((at - 1,),) for at in range(2, 8)])
        self.assertEqual(reached_states(down), (0, 1, 2, 3, 4, 5, 6, 7))

    def test_by_the_last_letters_alone(self):
        self.assertEqual(reached_states((((None, None), (None, 2)), ((0, 0), (0, 0)), ((None, 2), (0, None)))), (0, 2))

    def test_an_unreached_state_leads_anywhere(self):
        self.assertEqual(reached_states((((2,),), ((3,),), ((0,),), ((3,),))), (0, 2))

    def test_against_a_plain_search(self):
        sizes = set()
        for judge in SAMPLES + random_judges(300, 2):
            reached = reached_states(judge)
            self.assertIs(type(reached), tuple)
            self.assertEqual(reached, plainly_reached(judge))
            self.assertEqual(reached_states(judge=judge), reached)
            sizes.add(len(judge) - len(reached))
        self.assertTrue({0, 1, 2} <= sizes)
