"""Section 6: runs and answers; of section 4, guarantee (g) for answers."""

import copy
import itertools

from leastahead.errors import NoAnswer, NoNumber, Refused
from leastahead.runs import answer_at, answer_number, count_answers, run
from tests.cases import Case
from tests.samples import COPY, FAR, GREAT, NEXT, NONE, SPARSE, STRANGE, WALK, random_judges, replaced, uniform

SAMPLES = [NEXT, FAR, WALK, COPY, NONE, SPARSE, uniform(1, 4, 4, 0)] + random_judges(40, 3)
FREE = uniform(1, 1, 4, 0)


def short_inputs(judge, longest):
    for length in range(longest + 1):
        for inputs in itertools.product(range(len(judge[0])), repeat=length):
            yield inputs


def plain_run(judge, inputs, outputs):
    """The list of the states, with None as its last item if a letter is refused."""
    states = [0]
    for at in range(len(inputs)):
        states.append(judge[states[at]][inputs[at]][outputs[at]])
        if states[-1] is None:
            return states
    return states


def plain_answers(judge, inputs):
    """All answers in ascending order, and all other output words of this length."""
    words = list(itertools.product(range(len(judge[0][0])), repeat=len(inputs)))
    answers = [word for word in words if plain_run(judge, inputs, word)[-1] is not None]
    return answers, [word for word in words if plain_run(judge, inputs, word)[-1] is None]


class Run(Case):
    def assert_refused(self, index, judge, inputs, outputs):
        with self.assertRaises(Refused) as caught:
            run(judge, inputs, outputs)
        self.assertEqual(caught.exception.index, index)
        self.assertIs(type(caught.exception.index), int)

    def test_examples(self):
        self.assertEqual(run(NEXT, (0, 1), (1, 0)), (0, 2, 1))
        self.assert_refused(1, NEXT, (0, 1), (0, 0))

    def test_the_empty_word(self):
        for judge in SAMPLES:
            self.assertEqual(run(judge, (), ()), (0,))

    def test_refused_first_in_the_middle_and_last(self):
        word = (0, 1, 1, 0, 1)
        self.assertEqual(run(COPY, word, word), (0,) * 6)
        for at in range(5):
            self.assert_refused(at, COPY, word, replaced(word, (at,), 1 - word[at]))

    def test_the_first_of_several_refusals(self):
        self.assert_refused(0, COPY, (0, 1, 1), (1, 0, 0))
        self.assert_refused(1, COPY, (0, 1, 1), (0, 0, 0))
        self.assert_refused(0, NONE, (0,), (0,))
        self.assert_refused(0, NONE, (0, 0, 0), (0, 0, 0))

    def test_against_a_plain_run(self):
        for judge in SAMPLES:
            for inputs in short_inputs(judge, 2):
                for outputs in itertools.product(range(len(judge[0][0])), repeat=len(inputs)):
                    states = plain_run(judge, inputs, outputs)
                    if states[-1] is None:
                        self.assert_refused(len(states) - 2, judge, inputs, outputs)
                    else:
                        self.assertEqual(run(judge, inputs, outputs), tuple(states))

    def test_long_words(self):
        for length in (399, 400, 401):
            zeros = (0,) * length
            self.assertEqual(run(WALK, zeros, zeros), (0, 1) + (2,) * (length - 1))
            for at in (0, length // 2, length - 1):
                self.assert_refused(at, COPY, zeros, replaced(zeros, (at,), 1))

    def test_a_tuple_by_name(self):
        states = run(outputs=(1, 0), inputs=(0, 1), judge=NEXT)
        self.assertEqual(states, (0, 2, 1))
        self.assertIs(type(states), tuple)


class AnswersOfShortInputs(Case):
    def test_examples(self):
        self.assertEqual(count_answers(NEXT, (0, 1)), 2)
        self.assertEqual(answer_at(NEXT, (0, 1), 1), (1, 1))
        self.assertEqual(answer_number(NEXT, (0, 1), (1, 0)), 0)

    def test_the_empty_word(self):
        for judge in SAMPLES:
            self.assertEqual(count_answers(judge, ()), 1)
            self.assertEqual(answer_at(judge, (), 0), ())
            self.assertEqual(answer_number(judge, (), ()), 0)
            self.assert_raises(NoNumber, "number", 1, answer_at, judge, (), 1)
            self.assert_raises(NoAnswer, "outputs", (0,), answer_number, judge, (), (0,))

    def test_no_answers(self):
        self.assertEqual(count_answers(NONE, (0,)), 0)
        self.assert_raises(NoNumber, "number", 0, answer_at, NONE, (0,), 0)
        self.assert_raises(NoAnswer, "outputs", (0,), answer_number, NONE, (0,), (0,))

    def test_against_a_plain_listing(self):
        for judge in SAMPLES:
            for inputs in short_inputs(judge, 3):
                answers, others = plain_answers(judge, inputs)
                many = len(answers)
                self.assertEqual(count_answers(judge, inputs), many)
                self.assertEqual([answer_at(judge, inputs, at) for at in range(many)], answers)
                self.assertEqual([answer_number(judge, inputs, answer) for answer in answers], list(range(many)))
                for number in (-1, many, many + 1):
                    self.assert_raises(NoNumber, "number", number, answer_at, judge, inputs, number)
                for other in others[:5] + others[-5:]:
                    self.assert_raises(NoAnswer, "outputs", other, answer_number, judge, inputs, other)

    def test_kinds(self):
        answer = answer_at(NEXT, (0, 1), 0)
        self.assertIs(type(answer), tuple)
        self.assertEqual([type(letter) for letter in answer], [int, int])
        self.assertIs(type(answer_number(NEXT, (), ())), int)
        self.assertIs(type(count_answers(NONE, (0,))), int)

    def test_by_name(self):
        self.assertEqual(count_answers(inputs=(0, 1), judge=NEXT), 2)
        self.assertEqual(answer_at(number=1, inputs=(0, 1), judge=NEXT), (1, 1))
        self.assertEqual(answer_number(outputs=(1, 1), inputs=(0, 1), judge=NEXT), 1)


class WrongValues(Case):
    def test_no_number(self):
        for judge, inputs in ((NEXT, (0, 1)), (FREE, ()), (FREE, (0, 0)), (NONE, (0,))):
            for value in STRANGE:
                self.assert_raises(NoNumber, "number", value, answer_at, judge, inputs, value)

    def test_no_answer(self):
        for judge, inputs in ((NEXT, (0, 1)), (FREE, ()), (FREE, (0,)), (FREE, (0, 0)), (NONE, (0,))):
            for value in STRANGE + (0, 1):
                self.assert_raises(NoAnswer, "outputs", value, answer_number, judge, inputs, value)

    def test_outputs_of_other_lengths(self):
        for length, other in itertools.product((0, 1, 2, 399, 400), (0, 1, 2, 3, 399, 400, 401)):
            if length != other:
                outputs = (0,) * other
                self.assert_raises(NoAnswer, "outputs", outputs, answer_number, FREE, (0,) * length, outputs)

    def test_one_wrong_letter(self):
        for length in (1, 2, 3, 400):
            for at in (0, length // 2, length - 1):
                for letter in (-1, 4, GREAT, True, False, None, "0", (0,), [0], {0: 0}):
                    outputs = replaced((1,) * length, (at,), letter)
                    self.assert_raises(NoAnswer, "outputs", outputs, answer_number, FREE, (0,) * length, outputs)

    def test_a_letter_that_only_the_inputs_have(self):
        judge = uniform(1, 3, 2, 0)
        self.assert_raises(NoAnswer, "outputs", (0, 2), answer_number, judge, (2, 2), (0, 2))
        other = uniform(1, 2, 3, 0)
        self.assertEqual(answer_number(other, (0, 0), (0, 2)), 2)

    def test_lists(self):
        for outputs in ([1, 0], [1, 1], [], [(1, 0)], ([1, 0],)):
            self.assert_raises(NoAnswer, "outputs", outputs, answer_number, NEXT, (0, 1), outputs)

    def test_refused_at_each_place(self):
        word = (0, 1, 1, 0, 1)
        self.assertEqual(answer_number(COPY, word, word), 0)
        for at in range(5):
            outputs = replaced(word, (at,), 1 - word[at])
            self.assert_raises(NoAnswer, "outputs", outputs, answer_number, COPY, word, outputs)

    def test_arguments_are_not_changed(self):
        for value in STRANGE:
            before = copy.deepcopy(value)
            self.assert_raises(NoNumber, "number", value, answer_at, FREE, (0,), value)
            self.assert_raises(NoAnswer, "outputs", value, answer_number, FREE, (0,), value)
            self.assertEqual(value, before)


def base_four(number, length):
    digits = []
    for at in range(length):
        number, digit = divmod(number, 4)
        digits.append(digit)
    return tuple(digits[::-1])


def fibonacci(at):
    one, other = 1, 2
    for step in range(at):
        one, other = other, one + other
    return one


class AnswersOfLongInputs(Case):
    def assert_numbered(self, judge, inputs, numbers):
        for number in numbers:
            answer = answer_at(judge, inputs, number)
            self.assertNotIn(None, plain_run(judge, inputs, answer))
            self.assertEqual(len(answer), len(inputs))
            self.assertEqual(answer_number(judge, inputs, answer), number)

    def assert_ends(self, judge, inputs, many, first, last):
        self.assertEqual(count_answers(judge, inputs), many)
        self.assertEqual(answer_at(judge, inputs, 0), first)
        self.assertEqual(answer_at(judge, inputs, many - 1), last)
        self.assertEqual(answer_number(judge, inputs, first), 0)
        self.assertEqual(answer_number(judge, inputs, last), many - 1)
        for number in (many, many + 1, -1, -many, GREAT):
            self.assert_raises(NoNumber, "number", number, answer_at, judge, inputs, number)

    def test_every_output_word_answers(self):
        for length in (399, 400, 401):
            zeros = (0,) * length
            self.assert_ends(FREE, zeros, 4 ** length, zeros, (3,) * length)
            for number in (1, 4 ** 200 + 27, 4 ** length // 3, 4 ** length - 2):
                answer = base_four(number, length)
                self.assertEqual(answer_at(FREE, zeros, number), answer)
                self.assertEqual(answer_number(FREE, zeros, answer), number)

    def test_fibonacci(self):
        zeros = (0,) * 400
        many = fibonacci(400)
        self.assert_ends(SPARSE, zeros, many, zeros, (1, 0) * 200)
        # Behind all the answers that begin with 0 stand those that begin with 1.
        self.assertEqual(answer_number(SPARSE, zeros, (1,) + (0,) * 399), fibonacci(399))
        self.assertEqual(answer_at(SPARSE, zeros, fibonacci(399) - 1), (0,) + (1, 0) * 199 + (1,))
        self.assert_numbered(SPARSE, zeros, [many // k for k in range(2, 20)])

    def test_one_answer_and_none(self):
        word = (0, 1) * 200
        self.assert_ends(COPY, word, 1, word, word)
        self.assertEqual(count_answers(NONE, (0,) * 400), 0)
        self.assert_raises(NoNumber, "number", 0, answer_at, NONE, (0,) * 400, 0)

    def test_two_answers(self):
        inputs = (0, 0, 1, 1) * 100
        self.assert_ends(NEXT, inputs, 2, inputs[1:] + (0,), inputs[1:] + (1,))

    def test_numbers_and_answers_fit(self):
        numbered = 0
        for judge in random_judges(60, 4):
            inputs = tuple([(7 * at // 3) % len(judge[0]) for at in range(400)])
            many = count_answers(judge, inputs)
            if many:
                numbered += 1
                self.assert_numbered(judge, inputs, sorted({0, many // 3, many // 2, many - 1}))
            self.assert_raises(NoNumber, "number", many, answer_at, judge, inputs, many)
        self.assertGreater(numbered, 5)

    def test_refused_in_long_outputs(self):
        zeros = (0,) * 400
        for at in (1, 200, 399):
            outputs = replaced(replaced(zeros, (at,), 1), (at - 1,), 1)
            self.assert_raises(NoAnswer, "outputs", outputs, answer_number, SPARSE, zeros, outputs)
