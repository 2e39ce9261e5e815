"""Section 9: converters; of section 4, guarantee (a): every accepted table makes one that is never refused."""

import copy
import random

from leastahead.converters import Converter, converted
from leastahead.errors import BadTable, NoInput
from leastahead.pairs import is_enough, shows_table, table_for, used_rows
from leastahead.runs import run
from tests.cases import Case
from tests.plain import plain_outputs, words_of
from tests.samples import (
    COPY, FAR, GREAT, NEXT, NONE, SPARSE, STRANGE, WALK, later_judge, random_judges, replaced, small_judges, uniform,
)

# Each with a look-ahead from 0 to 3 that is enough.
ENOUGH = [(judge, ahead) for judge in [NEXT, COPY, WALK, SPARSE, later_judge(1), later_judge(2)]
          + small_judges(60, 51) + random_judges(20, 52) for ahead in range(4) if is_enough(judge, ahead)]
TABLE = table_for(NEXT, 1)


def random_inputs(source, judge, length):
    return tuple([source.randrange(len(judge[0])) for at in range(length)])


def begun(judge=NEXT, ahead=1, inputs=()):
    converter = Converter(judge, ahead, table_for(judge, ahead))
    for letter in inputs:
        converter.feed(letter)
    return converter


def situation(converter):
    return [converter.here(), converter.pending(), converter.written(), len(converter)]


class Feed(Case):
    def test_the_example(self):
        converter = Converter(NEXT, 1, table_for(NEXT, 1))
        self.assertEqual([converter.feed(1), converter.feed(0), converter.feed(1)], [None, 0, 1])
        self.assertEqual([converter.pending(), converter.here(), converter.written()], [(1,), 2, (0, 1)])

    def test_nothing_read(self):
        for judge, ahead in ENOUGH:
            self.assertEqual(situation(begun(judge, ahead)), [0, (), (), 0])

    def assert_along(self, judge, ahead, table, inputs):
        outputs, states = plain_outputs(judge, ahead, table, inputs)
        converter = Converter(judge, ahead, table)
        for at, letter in enumerate(inputs):
            written = max(0, at + 1 - ahead)
            answer = converter.feed(letter)
            self.assertEqual(answer, outputs[written - 1] if written else None)
            self.assertIs(type(answer), int if written else type(None))
            self.assertEqual(converter.here(), states[written])
            self.assertEqual(converter.pending(), inputs[written:at + 1])
            self.assertEqual(converter.written(), outputs[:written])
            self.assertEqual(len(converter), at + 1)
        # No output letter is refused, and the states are those of the judge.
        self.assertEqual(run(judge, inputs[:len(outputs)], outputs), states)

    def test_step_by_step(self):
        source = random.Random(53)
        met = {ahead: 0 for ahead in range(4)}
        for judge, ahead in ENOUGH:
            met[ahead] += 1
            table = table_for(judge, ahead)
            for length in (1, ahead, ahead + 1, 12, 40):
                self.assert_along(judge, ahead, table, random_inputs(source, judge, length))
            self.assert_along(judge, ahead, used_rows(judge, ahead, table), random_inputs(source, judge, 40))
        self.assertGreater(min(met.values()), 20)

    def test_all_short_inputs(self):
        for judge, ahead in ((NEXT, 1), (NEXT, 2), (later_judge(2), 2), (later_judge(1), 3), (COPY, 0)):
            for inputs in words_of(2, 7):
                self.assert_along(judge, ahead, table_for(judge, ahead), inputs)

    def test_other_answers_of_the_table(self):
        judge = uniform(2, 2, 3, 1)
        table = ((0, (0,), (0, 1)), (0, (1,), (2, 0)), (1, (0,), (1, 2)), (1, (1,), (0, 2)))
        converter = Converter(judge, 1, table)
        self.assertEqual([converter.feed(letter) for letter in (1, 0, 0, 1, 1)], [None, 2, 1, 2, 2])
        for inputs in words_of(2, 6):
            self.assert_along(judge, 1, table, inputs)

    def test_the_letters_that_are_foretold(self):
        source = random.Random(54)
        inputs = random_inputs(source, NEXT, 400)
        self.assertEqual(begun(NEXT, 1, inputs).written(), inputs[1:])
        self.assertEqual(begun(later_judge(2), 2, inputs).written(), inputs[2:])
        self.assertEqual(begun(later_judge(2), 3, inputs).written(), inputs[2:-1])
        self.assertEqual(begun(COPY, 0, inputs).written(), inputs)
        self.assertEqual(begun(COPY, 3, inputs).written(), inputs[:-3])

    def test_many_letters(self):
        source = random.Random(55)
        for judge, ahead in ((NEXT, 1), (later_judge(2), 3), (COPY, 0)):
            self.assert_along(judge, ahead, table_for(judge, ahead), random_inputs(source, judge, 1500))
        for judge, ahead in ENOUGH[::9]:
            inputs = random_inputs(source, judge, 800)
            outputs, states = plain_outputs(judge, ahead, table_for(judge, ahead), inputs)
            converter = begun(judge, ahead, inputs)
            self.assertEqual(situation(converter), [states[-1], inputs[len(outputs):], outputs, 800])

    def test_far_ahead(self):
        converter = begun(WALK, 100)
        for at in range(100):
            self.assertIsNone(converter.feed(0))
            self.assertEqual(situation(converter), [0, (0,) * (at + 1), (), at + 1])
        self.assertEqual(converter.feed(0), 0)
        self.assertEqual(situation(converter), [1, (0,) * 100, (0,), 101])
        self.assertEqual([converter.feed(0), converter.here()], [0, 2])

    def test_kinds(self):
        converter = begun(NEXT, 1, (0, 1, 1))
        for value in (converter.pending(), converter.written(), begun().pending(), begun().written()):
            self.assertIs(type(value), tuple)
            self.assert_plain(value)
        self.assertIs(type(converter.here()), int)
        self.assertIs(type(len(converter)), int)

    def test_asking_changes_nothing(self):
        converter = begun(NEXT, 1, (0, 1, 1))
        self.assertEqual(situation(converter), situation(converter))
        self.assertEqual(converter, begun(NEXT, 1, (0, 1, 1)))

    def test_the_methods_stand_in_the_class_itself(self):
        for name in ("feed", "here", "pending", "written", "copy", "__len__", "__eq__"):
            self.assertIn(name, vars(Converter))

    def test_by_name(self):
        converter = Converter(table=TABLE, ahead=1, judge=NEXT)
        self.assertEqual([converter.feed(letter=1), converter.feed(letter=0)], [None, 0])


class WrongLetters(Case):
    def test_values_of_any_kind(self):
        for inputs in ((), (0,), (0, 1), (1, 1, 0, 1)):
            converter = begun(NEXT, 1, inputs)
            before = situation(converter)
            for value in STRANGE + (2, 3, 4, (), (0,), [1], {1: 1}):
                kept = copy.deepcopy(value)
                self.assert_raises(NoInput, "x", value, converter.feed, value)
                self.assertEqual(value, kept)
                self.assertEqual(situation(converter), before)
                self.assertEqual(converter, begun(NEXT, 1, inputs))
            # It goes on as if nothing had happened.
            self.assertEqual(converter.feed(1), begun(NEXT, 1, inputs).feed(1))
            self.assertEqual(situation(converter), situation(begun(NEXT, 1, inputs + (1,))))

    def test_the_letters_of_the_judge(self):
        for inputs, outputs in ((1, 4), (2, 3), (3, 1), (4, 2)):
            judge = uniform(1, inputs, outputs, 0)
            for ahead in (0, 1):
                for letter in range(-2, 6):
                    converter = begun(judge, ahead)
                    if 0 <= letter < inputs:
                        self.assertEqual(converter.feed(letter), None if ahead else 0)
                    else:
                        self.assert_raises(NoInput, "x", letter, converter.feed, letter)
                        self.assertEqual(len(converter), 0)

    def test_booleans(self):
        for value in (True, False):
            self.assert_raises(NoInput, "x", value, begun().feed, value)

    def test_by_name(self):
        with self.assertRaises(NoInput) as caught:
            begun().feed(letter="0")
        self.assertEqual(caught.exception.x, "0")


class WrongTables(Case):
    def assert_bad(self, judge, ahead, value):
        self.assert_raises(BadTable, "table", value, Converter, judge, ahead, value)

    def test_values_of_any_kind(self):
        for judge, ahead in ((NEXT, 1), (COPY, 0), (FAR, 1)):
            for value in STRANGE + (0, 1, (), [TABLE], (TABLE,), "table", {0: TABLE}):
                before = copy.deepcopy(value)
                self.assert_bad(judge, ahead, value)
                self.assertEqual(value, before)

    def test_changed_tables(self):
        for value in (TABLE[1:], TABLE[::-1], TABLE + TABLE[-1:], list(TABLE), replaced(TABLE, (0,), list(TABLE[0])),
                      replaced(TABLE, (2, 2, 0), 1), replaced(TABLE, (3, 0), True), replaced(TABLE, (1, 1), [1]),
                      replaced(TABLE, (0, 2), (0, True)), replaced(TABLE, (0, 0), GREAT)):
            self.assertIs(shows_table(NEXT, 1, value), False)
            self.assert_bad(NEXT, 1, value)

    def test_tables_of_others(self):
        self.assert_bad(NEXT, 0, TABLE)
        self.assert_bad(NEXT, 2, TABLE)
        self.assert_bad(FAR, 1, TABLE)
        self.assert_bad(NONE, 0, ((0, (), (0,)),))
        self.assert_bad(uniform(8, 4, 4, 0), 100, TABLE)

    def test_by_name(self):
        with self.assertRaises(BadTable) as caught:
            Converter(judge=NEXT, ahead=1, table=None)
        self.assertIsNone(caught.exception.table)


class Copies(Case):
    def test_the_same_situation(self):
        source = random.Random(56)
        for judge, ahead in ENOUGH[::3]:
            inputs = random_inputs(source, judge, source.randrange(12))
            converter = begun(judge, ahead, inputs)
            other = converter.copy()
            self.assertIs(type(other), Converter)
            self.assertIsNot(other, converter)
            self.assertEqual(situation(other), situation(converter))
            self.assertEqual(other, converter)

    def test_they_go_on_apart(self):
        source = random.Random(57)
        for judge, ahead in ENOUGH[::3]:
            inputs = random_inputs(source, judge, source.randrange(12))
            one, two = random_inputs(source, judge, 9), random_inputs(source, judge, 9)
            for first in (0, 1):
                both = [begun(judge, ahead, inputs)]
                both.append(both[0].copy())
                # The original first, then the copy, or the other way round.
                for at in (first, 1 - first):
                    before = situation(both[1 - at])
                    for letter in (one, two)[at]:
                        both[at].feed(letter)
                    self.assertEqual(situation(both[1 - at]), before)
                self.assertEqual(situation(both[0]), situation(begun(judge, ahead, inputs + one)))
                self.assertEqual(situation(both[1]), situation(begun(judge, ahead, inputs + two)))

    def test_by_turns(self):
        one = begun(NEXT, 1, (0,))
        two = one.copy()
        three = two.copy()
        for letter in (1, 0, 0, 1, 1, 1, 0):
            self.assertEqual([one.feed(letter), two.feed(1 - letter)], [letter, 1 - letter])
        self.assertEqual(one.written(), (1, 0, 0, 1, 1, 1, 0))
        self.assertEqual(two.written(), (0, 1, 1, 0, 0, 0, 1))
        self.assertEqual(situation(three), [0, (0,), (), 1])

    def test_a_copy_after_many_letters(self):
        inputs = (0, 1, 1) * 300
        converter = begun(NEXT, 1, inputs)
        other = converter.copy()
        other.feed(0)
        self.assertEqual([len(converter), len(other)], [900, 901])
        self.assertEqual(other.written(), inputs[1:] + (0,))


class Equal(Case):
    def assert_equal(self, one, other, expected):
        self.assertIs(one == other, expected)
        self.assertIs(other == one, expected)
        self.assertIs(one != other, not expected)

    def test_the_same(self):
        for inputs in ((), (0,), (0, 1, 1)):
            self.assert_equal(begun(NEXT, 1, inputs), begun(NEXT, 1, inputs), True)
            converter = begun(NEXT, 1, inputs)
            self.assert_equal(converter, converter, True)

    def test_equal_values_that_are_not_the_same_objects(self):
        judge = tuple([tuple([tuple(list(row)) for row in state]) for state in NEXT])
        table = tuple([tuple(list(row)) for row in TABLE])
        self.assert_equal(Converter(judge, 1, table), begun(), True)

    def test_other_letters(self):
        words = [word for length in range(4) for word in words_of(2, length)]
        for one in words:
            for other in words:
                self.assert_equal(begun(NEXT, 1, one), begun(NEXT, 1, other), one == other)

    def test_other_letters_with_the_same_answers(self):
        # Neither the state, nor the pending letters, nor what was written tells the letters apart.
        free = uniform(1, 2, 1, 0)
        one, other = begun(free, 1, (0, 1, 1)), begun(free, 1, (1, 0, 1))
        self.assertEqual(situation(one), situation(other))
        self.assert_equal(one, other, False)
        self.assert_equal(begun(free, 0, (0,)), begun(free, 0, (1,)), False)

    def test_another_judge(self):
        # The same table, and no answer leads to the entry that is different.
        one, other = (((0, None),),), (((0, 0),),)
        table = ((0, (), (0,)),)
        self.assert_equal(Converter(one, 0, table), Converter(other, 0, table), False)

    def test_another_look_ahead(self):
        self.assert_equal(begun(NEXT, 1), begun(NEXT, 2), False)
        self.assert_equal(begun(WALK, 0), begun(WALK, 1), False)
        self.assert_equal(begun(WALK, 99), begun(WALK, 100), False)

    def test_another_table(self):
        free = (((0, 0),),)
        self.assert_equal(Converter(free, 0, ((0, (), (0,)),)), Converter(free, 0, ((0, (), (1,)),)), False)
        judge = (((0,),), ((1,),))
        table = table_for(judge, 0)
        self.assert_equal(Converter(judge, 0, table), Converter(judge, 0, used_rows(judge, 0, table)), False)

    def test_the_way_there_does_not_count(self):
        converter = begun(NEXT, 1, (0, 1))
        other = converter.copy()
        other.feed(1)
        self.assert_equal(converter, other, False)
        converter.feed(1)
        self.assert_equal(converter, other, True)
        with self.assertRaises(NoInput):
            other.feed(2)
        self.assert_equal(converter, other, True)

    def test_other_values(self):
        for converter in (begun(), begun(NEXT, 1, (0, 1))):
            for value in STRANGE + (0, 1, (), (0, 1), TABLE, NEXT, Converter, situation(converter), object()):
                self.assert_equal(converter, value, False)


class Converted(Case):
    def test_the_example(self):
        self.assertEqual(converted(NEXT, 1, table_for(NEXT, 1), (1, 1, 0, 1)), (1, 0, 1))

    def test_against_feeding(self):
        source = random.Random(58)
        for judge, ahead in ENOUGH:
            table = table_for(judge, ahead)
            for length in range(7):
                inputs = random_inputs(source, judge, length)
                outputs = converted(judge, ahead, table, inputs)
                converter = Converter(judge, ahead, table)
                answers = [converter.feed(letter) for letter in inputs]
                self.assertEqual(outputs, tuple(answers[ahead:]))
                self.assertEqual(outputs, plain_outputs(judge, ahead, table, inputs)[0])
                self.assertIs(type(outputs), tuple)

    def test_every_length(self):
        source = random.Random(59)
        for judge, ahead in ((NEXT, 1), (later_judge(2), 2), (later_judge(2), 3), (COPY, 0)):
            table = table_for(judge, ahead)
            inputs = random_inputs(source, judge, 402)
            whole = plain_outputs(judge, ahead, table, inputs)[0]
            for length in range(0, 403, 1 if ahead == 1 else 67):
                self.assertEqual(converted(judge, ahead, table, inputs[:length]), whole[:max(0, length - ahead)])

    def test_as_many_letters_as_are_read_ahead(self):
        for ahead in (1, 2, 100):
            table = table_for(WALK, ahead)
            self.assertEqual(converted(WALK, ahead, table, ()), ())
            self.assertEqual(converted(WALK, ahead, table, (0,) * (ahead - 1)), ())
            self.assertEqual(converted(WALK, ahead, table, (0,) * ahead), ())
            self.assertEqual(converted(WALK, ahead, table, (0,) * (ahead + 1)), (0,))

    def test_never_refused(self):
        source = random.Random(60)
        for judge, ahead in ENOUGH:
            inputs = random_inputs(source, judge, 200)
            outputs = converted(judge, ahead, table_for(judge, ahead), inputs)
            self.assertEqual(len(outputs), 200 - ahead)
            self.assertEqual(len(run(judge, inputs[:len(outputs)], outputs)), 201 - ahead)

    def test_by_name(self):
        self.assertEqual(converted(inputs=(1, 1, 0, 1), table=TABLE, ahead=1, judge=NEXT), (1, 0, 1))
