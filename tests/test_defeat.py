"""Section 12: how a certificate defeats every converter; of section 4, the second half of guarantee (d)."""

import copy
import itertools
import random

from leastahead.certificates import certificate, defeat
from leastahead.errors import BadCertificate
from leastahead.pairs import table_for
from tests.cases import Case
from tests.samples import (
    ENDLESS, FAR, FAR_CERTIFICATE, GREAT, NEXT, NONE, STRANGE, begun_at, later_judge, maps_judge, replaced, spoiled,
)

BLOCKS, ROWS = FAR_CERTIFICATE
NO_LETTERS = (True, False, None, [], [0], "0", "", (0,), (), {}, {0: 0}, -1, -2, 4, GREAT, -GREAT)


def can_answer(judge, state, word):
    """Whether some output word answers the word from the state."""
    states = {state}
    for x in word:
        states = {entry for one in states for entry in judge[one][x]} - {None}
    return bool(states)


def careful(judge, ahead):
    """A converter that looks as far ahead as it may: it writes the last letter behind which all that it knows of the
    inputs can be answered, as long as there is one."""
    def answer(word):
        state = 0
        for at in range(len(word) - ahead):
            entries = list(enumerate(judge[state][word[at]]))
            fitting = [(y, entry) for y, entry in entries
                       if entry is not None and can_answer(judge, entry, word[at + 1:at + 1 + ahead])]
            y, state = max(fitting, default=(0, None))
            if state is None:
                return 0
        return y
    return answer


class Defeat(Case):
    def assert_defeated(self, judge, value, ahead, answer):
        """Check one defeat by the definition alone. Return the inputs and the outputs."""
        asked = []

        def watched(word):
            asked.append(word)
            return answer(word)

        result = defeat(judge, value, ahead, watched)
        self.assertIs(type(result), tuple)
        inputs, outputs = result
        self.assertIs(type(outputs), tuple)
        for word in asked + [inputs]:
            self.assertIs(type(word), tuple)
            self.assert_plain(word)
            self.assertTrue(all(letter in range(len(judge[0])) for letter in word))
        self.assertTrue(all(len(word) > ahead for word in asked))
        self.assertGreater(len(outputs), 0)
        self.assertEqual(len(inputs), len(outputs) + ahead)
        state = 0
        for at, output in enumerate(outputs):
            expected = answer(inputs[:at + 1 + ahead])
            self.assertEqual(output, expected)
            self.assertIs(type(output), type(expected))
            # All earlier ones were allowed.
            self.assertIsNotNone(state)
            is_letter = type(output) is int and output in range(len(judge[0][0]))
            state = judge[state][inputs[at]][output] if is_letter else None
        self.assertIsNone(state)
        return inputs, outputs

    def samples(self):
        return [(FAR, FAR_CERTIFICATE)] + [(judge, certificate(judge)) for judge in ENDLESS]

    def test_the_example(self):
        inputs, outputs = defeat(NONE, certificate(NONE), 2, len)
        self.assertEqual([len(inputs), outputs], [3, (3,)])

    def test_constant_answers(self):
        for judge, value in self.samples():
            for y, ahead in itertools.product(range(len(judge[0][0])), list(range(13)) + [99, 100]):
                self.assert_defeated(judge, value, ahead, lambda word: y)

    def test_sums(self):
        for judge, value in self.samples():
            many = len(judge[0][0])
            for ahead in list(range(13)) + [100]:
                self.assert_defeated(judge, value, ahead, lambda word: sum(word) % many)
                self.assert_defeated(judge, value, ahead, lambda word: (len(word) + sum(word)) % many)

    def test_drawn_answers(self):
        for judge, value in self.samples():
            many = len(judge[0][0])
            for ahead, seed in itertools.product((0, 1, 2, 5), range(5)):
                self.assert_defeated(judge, value, ahead, lambda word: random.Random(f"{seed} {word}").randrange(many))

    def test_looking_as_far_ahead_as_they_may(self):
        longest = 0
        for judge, value in self.samples():
            many = len(judge[0][0])
            for ahead in list(range(13)) + [100]:
                self.assert_defeated(judge, value, ahead, lambda word: word[-1] % many)
                self.assert_defeated(judge, value, ahead, lambda word: word[-1 - ahead // 2] % many)
            for ahead in list(range(8)) + [12, 30]:
                inputs, outputs = self.assert_defeated(judge, value, ahead, careful(judge, ahead))
                longest = max(longest, len(outputs))
        self.assertGreater(longest, 60)

    def test_no_output_letters_at_once(self):
        for judge, value in ((NONE, certificate(NONE)), (FAR, FAR_CERTIFICATE)):
            for wrong, ahead in itertools.product(NO_LETTERS, (0, 1, 2, 12, 100)):
                inputs, outputs = self.assert_defeated(judge, value, ahead, lambda word: wrong)
                self.assertEqual(len(outputs), 1)
                self.assertIs(outputs[0], wrong)

    def test_just_beyond_the_output_letters(self):
        for judge, value in self.samples():
            many = len(judge[0][0])
            inputs, outputs = self.assert_defeated(judge, value, 1, lambda word: many)
            self.assertEqual(outputs, (many,))

    def test_no_output_letters_later(self):
        for wrong, ahead, later in itertools.product(NO_LETTERS, (0, 1, 3, 12), (2, 3, 5)):
            answer = careful(FAR, ahead)
            inputs, outputs = self.assert_defeated(
                FAR, FAR_CERTIFICATE, ahead, lambda word: answer(word) if len(word) < ahead + later else wrong)
            self.assertLessEqual(len(outputs), later)

    def test_booleans_are_no_output_letters(self):
        # False and True would be the letters 0 and 1, which are allowed.
        judge = (((0, 0), (None, None)),)
        value = certificate(judge)
        for wrong in (False, True):
            self.assertEqual(self.assert_defeated(judge, value, 0, lambda word: wrong)[1], (wrong,))
            inputs, outputs = self.assert_defeated(judge, value, 3, lambda word: 0 if len(word) == 4 else wrong)
            self.assertLessEqual(len(outputs), 2)

    def test_tables_of_other_judges(self):
        # A converter that is right if its start is another one.
        right = later_judge(1)
        rows = {row[:2]: row[2] for row in table_for(right, 1)}

        def answer(word):
            state = 0
            for at in range(len(word) - 1):
                y = rows[(state, word[at:at + 1])][word[at + 1]]
                state = right[state][word[at]][y]
            return y

        for start in (1, 2):
            judge = begun_at(right, start)
            self.assert_defeated(judge, certificate(judge), 1, answer)

    def test_certificates_with_more_than_they_need(self):
        answers = (lambda word: 0, lambda word: 1, lambda word: word[-1] % 2, careful(FAR, 3))
        blocks = BLOCKS + BLOCKS[1:2]
        values = (
            # Rows twice, and other rows for a state and a block that came before.
            (BLOCKS, ROWS + ROWS), (BLOCKS, ROWS[:1] + ROWS), (BLOCKS, ROWS + ((1, 0, 2), (0, 0, 0))),
            (BLOCKS, ((2, 1, 1), (1, 2, 2)) + ROWS), (BLOCKS, ROWS + ((0, 0, 0),)),
            (BLOCKS, ROWS[:2] + ((2, 1, 2),) + ROWS[2:]),
            # Blocks that are longer, and alike.
            (blocks, ((2, 3, 0),) + replaced(ROWS, (3, 2), 3)),
            ((((0,) * 30, (0,) * 7, ()), ((0, 0), (0,), (1,)), ((0,), (0, 0, 0), (2, 0))), ROWS),
        )
        for value, answer in itertools.product(values, answers):
            self.assert_defeated(FAR, value, 3, answer)

    def test_blocks_without_letters(self):
        judge = (((0,), (None,)),)
        blocks = (((), (0,), ()), ((), (0,), (1,)))
        for ahead in (0, 1, 2, 100):
            inputs, outputs = self.assert_defeated(judge, (blocks, ((0, 1, 0), (0, 0, 1))), ahead, lambda word: 0)
            self.assertIn(1, inputs)

    def test_refused_only_behind_a_long_way(self):
        for states in range(1, 9):
            judge = maps_judge(list(range(1, states)) + [None])
            for ahead in (0, 1, 5, 100):
                inputs, outputs = self.assert_defeated(judge, certificate(judge), ahead, lambda word: 0)
                self.assertEqual(outputs, (0,) * states)

    def test_inputs_of_more_than_400_letters(self):
        value = replaced(FAR_CERTIFICATE, (0, 0, 0), (0,) * 1500)
        inputs, outputs = self.assert_defeated(FAR, value, 100, lambda word: 0)
        self.assertGreater(len(inputs), 1500)

    def test_more_than_2000_relations(self):
        # The limit is for certificate, not for defeat.
        judge = maps_judge((1, 2, 3, 4, 5, 6, 0), (1, 0, 2, 3, 4, 5, 6), (None,) * 7)
        value = ((((0, 1, 2), (2,), ()),), ((0, 0, 0),))
        for ahead in (0, 1, 4):
            self.assert_defeated(judge, value, ahead, lambda word: 0)

    def test_by_name(self):
        inputs, outputs = defeat(answer=len, ahead=2, value=certificate(NONE), judge=NONE)
        self.assertEqual([len(inputs), outputs], [3, (3,)])

    def test_again(self):
        for judge, value in self.samples():
            self.assertEqual(defeat(judge, value, 2, sum), defeat(judge, value, 2, sum))


class BadValues(Case):
    def assert_bad(self, judge, value):
        before = copy.deepcopy(value)
        self.assert_raises(BadCertificate, "value", value, defeat, judge, value, 1, lambda word: 0)
        self.assertEqual(value, before)

    def test_values_of_any_kind(self):
        for value in STRANGE + (0, 1, (), ((), ()), BLOCKS, ROWS, (ROWS, BLOCKS), (FAR_CERTIFICATE,)):
            for judge in (FAR, NONE, NEXT):
                self.assert_bad(judge, value)

    def test_one_part_of_another_kind(self):
        for value in spoiled(FAR_CERTIFICATE):
            self.assert_bad(FAR, value)

    def test_almost_certificates(self):
        self.assert_bad(FAR, (BLOCKS, ROWS[::-1]))
        self.assert_bad(FAR, (BLOCKS, ROWS[:-1]))
        self.assert_bad(FAR, (BLOCKS, ROWS[1:]))
        self.assert_bad(FAR, (BLOCKS, ()))
        self.assert_bad(FAR, replaced(FAR_CERTIFICATE, (0, 0, 1), ()))
        self.assert_bad(FAR, replaced(FAR_CERTIFICATE, (0, 0, 1), (1,)))
        self.assert_bad(FAR, replaced(FAR_CERTIFICATE, (0, 0, 0), (0,) * 2001))
        self.assert_bad(NEXT, FAR_CERTIFICATE)
        self.assert_bad(NEXT, certificate(NONE))
