"""Sections 3 and 7: relations, composed ones, all of them, the long ones, and the block length."""

import copy
import itertools
import random
import unittest

from leastahead.errors import NoRelation
from leastahead.relations import (
    all_relations, block_length, composed, is_relation, least_word, long_relations, relation_of,
)
from tests.cases import Case
from tests.plain import Layers, joined, relation_by_outputs, relation_by_steps, words_of, words_up_to
from tests.samples import (
    COPY, FAR, GREAT, NEXT, NONE, PARITY, SPARSE, STRANGE, WALK, line_judge, maps_judge, nested,
    random_judges, replaced, small_judges, uniform,
)

NAMED = [NEXT, FAR, WALK, COPY, NONE, SPARSE, PARITY]
LINES = [line_judge(states, inputs, outputs, 7 * states + inputs)
         for states in range(2, 7) for inputs in (1, 2) for outputs in (1, 2)]
SMALL = NAMED + LINES + small_judges(120, 11)


def random_relation(source, states):
    return tuple([tuple([goal for goal in range(states) if source.randrange(3) == 0]) for state in range(states)])


class IsRelation(unittest.TestCase):
    judge = uniform(3, 2, 2, 0)
    full = ((0, 1, 2), (0, 1, 2), (0, 1, 2))

    def assert_none(self, value, judge=None):
        self.assertIs(is_relation(judge or self.judge, value), False, value)

    def test_every_relation_of_two_states(self):
        judge = uniform(2, 1, 1, None)
        tuples = ((), (0,), (1,), (0, 1))
        for value in itertools.product(tuples, repeat=2):
            self.assertIs(is_relation(judge, value), True, value)
        # Not ascending, twice the same state, below 0, or beyond the last state.
        for wrong in ((1, 0), (0, 0), (1, 1), (0, 1, 1), (2,), (-1,), (0, 2), (-1, 0), (0, 1, 2)):
            for right in tuples:
                self.assert_none((wrong, right), judge)
                self.assert_none((right, wrong), judge)

    def test_it_need_not_be_the_relation_of_a_word(self):
        self.assertIs(is_relation(NONE, ((0,),)), True)
        self.assertIs(is_relation(NONE, ((),)), True)
        self.assertIs(is_relation(self.judge, self.full), True)

    def test_lengths(self):
        for states in range(1, 9):
            judge = uniform(states, 1, 1, 0)
            everything = tuple(range(states))
            for length in range(11):
                for part in ((), (0,), everything):
                    self.assertIs(is_relation(judge, (part,) * length), length == states, (states, length))
            self.assert_none((everything,) * (states - 1) + (everything + (states,),), judge)
            self.assert_none((everything,) * (states - 1) + ((states,),), judge)
            self.assertIs(is_relation(judge, ((states - 1,),) * states), True)

    def test_not_as_many_as_the_letters(self):
        judge = uniform(3, 2, 4, 0)
        self.assertIs(is_relation(judge, ((), (), (2,))), True)
        self.assert_none(((), ()), judge)
        self.assert_none(((), (), (3,)), judge)
        self.assert_none(((), (), (), ()), judge)

    def test_one_wrong_tuple_anywhere(self):
        wrongs = ((1, 0), (2, 1), (0, 2, 1), (1, 0, 2), (0, 0), (2, 2), (0, 1, 1), (0, 0, 1), (3,), (0, 1, 2, 3),
                  (-1,), (-1, 0), (-3,), (GREAT,), (-GREAT,), (0, GREAT))
        for at in range(3):
            for wrong in wrongs:
                self.assert_none(replaced(self.full, (at,), wrong))

    def test_booleans(self):
        for at, entry in itertools.product(range(3), (True, False)):
            self.assert_none(replaced(((), (), ()), (at,), (entry,)))
        self.assert_none(((False, True, 2),) * 3)
        self.assert_none(((0, True, 2),) + self.full[1:])
        self.assert_none(self.full[:2] + ((False, 1, 2),))

    def test_lists_at_each_depth(self):
        self.assert_none([list(part) for part in self.full])
        self.assert_none(list(self.full))
        for at in range(3):
            self.assert_none(replaced(self.full, (at,), [0, 1, 2]))
            self.assert_none(replaced(self.full, (at,), []))
            self.assert_none(replaced(self.full, (at, 1), [1]))

    def test_other_kinds_at_each_depth(self):
        for value in STRANGE + (0, 1, "012", "abc", {0: (), 1: (), 2: ()}, [(), (), ()], ((0, 1, 2), 0, 0)):
            self.assert_none(value)
            for path in ((0,), (1,), (2,)):
                if value != (0,) and value != ((0,),):
                    self.assert_none(replaced(self.full, path, value))
            if value not in (0, 1) or isinstance(value, bool):
                for path in ((0, 0), (1, 1), (2, 2)):
                    self.assert_none(replaced(self.full, path, value))

    def test_depths(self):
        for kind, depth in itertools.product(("tuple", "list", "dict"), range(21)):
            value = nested(kind, depth)
            self.assertIs(is_relation(NONE, value), kind == "tuple" and depth == 2)
            self.assert_none(value)

    def test_by_name_and_not_changed(self):
        self.assertIs(is_relation(value=self.full, judge=self.judge), True)
        for value in STRANGE:
            before = copy.deepcopy(value)
            is_relation(self.judge, value)
            self.assertEqual(value, before)


class RelationOf(Case):
    def test_examples(self):
        self.assertEqual(relation_of(NEXT, (0,)), ((1, 2), (1, 2), ()))
        self.assertEqual(relation_of(NEXT, (1, 0)), ((1, 2), (), (1, 2)))

    def test_the_empty_word(self):
        for judge in SMALL + random_judges(20, 12):
            self.assertEqual(relation_of(judge, ()), tuple([(state,) for state in range(len(judge))]))

    def test_against_a_walk_over_all_output_words(self):
        for judge in NAMED + random_judges(40, 13):
            for word in words_up_to(len(judge[0]), 3 if len(judge[0]) < 4 else 2):
                relation = relation_of(judge, word)
                self.assertEqual(relation, relation_by_outputs(judge, word))
                self.assert_plain(relation)
                self.assertIs(is_relation(judge, relation), True)

    def test_long_words(self):
        source = random.Random(14)
        for judge in SMALL[:40] + random_judges(40, 15):
            for length in (399, 400, 401, 900):
                word = tuple([source.randrange(len(judge[0])) for at in range(length)])
                self.assertEqual(relation_of(judge, word), relation_by_steps(judge, word))

    def test_long_words_along_one_output_letter(self):
        turn = maps_judge((1, 2, 3, 4, 5, 6, 0), (0, 2, 1, 3, 4, 5, 6))
        self.assertEqual(relation_of(turn, (0,) * 400), tuple([((state + 400) % 7,) for state in range(7)]))
        self.assertEqual(relation_of(turn, (1,) * 400), tuple([(state,) for state in range(7)]))
        # 399 is a multiple of 7, so that the zeros change nothing.
        self.assertEqual(relation_of(turn, (0,) * 399 + (1,)), ((0,), (2,), (1,), (3,), (4,), (5,), (6,)))

    def test_refused_at_the_end_alone(self):
        judge = (((0,), (None,)),)
        self.assertEqual(relation_of(judge, (0,) * 400), ((0,),))
        self.assertEqual(relation_of(judge, (0,) * 399 + (1,)), ((),))
        self.assertEqual(relation_of(judge, (1,) + (0,) * 399), ((),))

    def test_by_name(self):
        self.assertEqual(relation_of(inputs=(1, 0), judge=NEXT), ((1, 2), (), (1, 2)))

    def test_more_relations_than_2000(self):
        judge = maps_judge((1, 2, 3, 4, 0), (1, 0, 2, 3, 4), (0, 0, 2, 3, 4))
        self.assertEqual(relation_of(judge, (2, 0)), ((1,), (1,), (3,), (4,), (0,)))
        self.assertIs(is_relation(judge, ((),) * 5), True)
        self.assertEqual(composed(((0, 1), (), (), (), ()), ((3,), (2,), (), (), ())), ((2, 3), (), (), (), ()))


class Composed(Case):
    def test_the_example(self):
        self.assertEqual(composed(((1, 2), (), (0,)), ((0,), (1, 2), (2,))), ((1, 2), (), (0,)))

    def test_the_sequence_matters(self):
        one, other = ((1,), (1,)), ((0,), ())
        self.assertEqual(composed(one, other), ((), ()))
        self.assertEqual(composed(other, one), ((1,), ()))

    def test_against_a_plain_computation(self):
        source = random.Random(16)
        for states in range(1, 9):
            for at in range(60):
                one, other = random_relation(source, states), random_relation(source, states)
                both = composed(one, other)
                self.assertEqual(both, joined(one, other))
                self.assert_plain(both)

    def test_every_pair_of_two_states(self):
        relations = list(itertools.product(((), (0,), (1,), (0, 1)), repeat=2))
        for one, other in itertools.product(relations, repeat=2):
            self.assertEqual(composed(one, other), joined(one, other))

    def test_the_relation_of_no_letters_changes_nothing(self):
        source = random.Random(17)
        for states in range(1, 9):
            nothing = tuple([(state,) for state in range(states)])
            relation = random_relation(source, states)
            self.assertEqual(composed(nothing, relation), relation)
            self.assertEqual(composed(relation, nothing), relation)
            self.assertEqual(composed(relation, ((),) * states), ((),) * states)
            self.assertEqual(composed(((),) * states, relation), ((),) * states)

    def test_words_one_behind_the_other(self):
        source = random.Random(18)
        for judge in NAMED + random_judges(40, 19):
            for one, other in ((0, 3), (1, 1), (2, 5), (200, 200)):
                first = tuple([source.randrange(len(judge[0])) for at in range(one)])
                second = tuple([source.randrange(len(judge[0])) for at in range(other)])
                self.assertEqual(composed(relation_of(judge, first), relation_of(judge, second)),
                                 relation_by_steps(judge, first + second))

    def test_by_name(self):
        self.assertEqual(composed(other=((0,), ()), one=((1,), (1,))), ((), ()))


class AllRelations(Case):
    def test_the_example(self):
        self.assertEqual(all_relations(WALK), (((1,), (2,), (2,)), ((2,), (2,), (2,))))

    def test_known_ones(self):
        self.assertEqual(all_relations(NONE), (((),),))
        self.assertEqual(all_relations(COPY), (((0,),),))
        self.assertEqual(all_relations(NEXT), (((1, 2), (), (1, 2)), ((1, 2), (1, 2), ())))
        self.assertEqual(all_relations(PARITY), (((0,), (1,)), ((1,), (0,))))
        self.assertEqual(all_relations((((0,), (None,)),)), (((),), ((0,),)))

    def test_the_relation_of_no_letters_only_if_another_word_has_it(self):
        # No word of WALK or SPARSE has it, but (0, 0) has it if both states are exchanged.
        nothing = ((0,), (1,))
        self.assertNotIn(nothing, all_relations(SPARSE))
        self.assertIn(nothing, all_relations(maps_judge((1, 0))))
        self.assertEqual(all_relations(maps_judge((1, 0))), (nothing, ((1,), (0,))))

    def test_against_a_plain_listing(self):
        empties = 0
        for judge in SMALL:
            relations = all_relations(judge)
            self.assertEqual(relations, Layers(judge).all_relations())
            self.assert_plain(relations)
            empties += any(() in relation and relation != ((),) * len(judge) for relation in relations)
        self.assertGreater(empties, 20)

    def test_the_relations_of_short_words_are_among_them(self):
        for judge in SMALL[::5]:
            relations = all_relations(judge)
            listed = {relation_by_outputs(judge, word) for word in words_up_to(len(judge[0]), 5)[1:]}
            self.assertTrue(listed <= set(relations))
            if len(relations) <= 5:
                self.assertEqual(sorted(listed), list(relations))

    def test_all_maps_of_four_states(self):
        judge = maps_judge((1, 2, 3, 0), (1, 0, 2, 3), (0, 0, 2, 3))
        every = [tuple([(goal,) for goal in goals]) for goals in words_of(4, 4)]
        self.assertEqual(all_relations(judge), tuple(sorted(every)))

    def test_by_name_and_again(self):
        self.assertEqual(all_relations(judge=FAR), all_relations(FAR))


class LeastWord(Case):
    def test_the_example(self):
        self.assertEqual(least_word(WALK, ((2,), (2,), (2,))), (0, 0))

    def test_known_ones(self):
        self.assertEqual(least_word(PARITY, ((0,), (1,))), (0,))
        self.assertEqual(least_word(PARITY, ((1,), (0,))), (1,))
        # The word () does not count, so the relation of no letters needs two of them.
        self.assertEqual(least_word(maps_judge((1, 0)), ((0,), (1,))), (0, 0))
        self.assertEqual(least_word(maps_judge((1, 0), (0, 1)), ((0,), (1,))), (1,))

    def test_against_a_plain_listing(self):
        for judge in SMALL:
            layers = Layers(judge)
            for relation in layers.all_relations():
                word = least_word(judge, relation)
                self.assertEqual(word, layers.least_word(relation))
                self.assert_plain(word)
                self.assertIs(type(word), tuple)

    def test_against_all_short_words(self):
        for judge in SMALL[::7]:
            met = set()
            for word in words_up_to(len(judge[0]), 5)[1:]:
                relation = relation_by_outputs(judge, word)
                if relation not in met:
                    met.add(relation)
                    self.assertEqual(least_word(judge, relation), word)

    def test_no_word_has_it(self):
        for judge, relation in (
            (WALK, ((0,), (1,), (2,))), (WALK, ((), (), ())), (NEXT, ((0,), (1,), (2,))), (NONE, ((0,),)),
            (COPY, ((),)), (PARITY, ((0,), (0,))), (FAR, ((0, 1, 2), (0, 1, 2), (0, 1, 2))),
        ):
            self.assertIs(is_relation(judge, relation), True)
            self.assert_raises(NoRelation, "relation", relation, least_word, judge, relation)

    def test_values_of_any_kind(self):
        for judge in (NEXT, FAR, WALK, PARITY):
            for value in STRANGE + (0, 1, (), ((),), ((2,), (2,)), (((2,), (2,), (2,)),)):
                self.assert_raises(NoRelation, "relation", value, least_word, judge, value)

    def test_almost_relations(self):
        right = ((1,), (2,), (2,))
        self.assertEqual(least_word(WALK, right), (0,))
        for wrong in (
            [(1,), (2,), (2,)], ([1], (2,), (2,)), ((True,), (2,), (2,)), ((1,), (2,)), ((1,), (2,), (2,), (2,)),
            ((1,), (2,), [2]), ((1,), (2,), (2, 2)), ((1,), (2,), 2), ((1,), (2,), ("2",)), ((1,), (2,), ((2,),)),
        ):
            self.assert_raises(NoRelation, "relation", wrong, least_word, WALK, wrong)
        false = ((False,), (True,))
        self.assert_raises(NoRelation, "relation", false, least_word, PARITY, false)

    def test_a_part_of_a_value_is_not_changed(self):
        value = ([1], {2: [3]})
        self.assert_raises(NoRelation, "relation", value, least_word, WALK, value)
        self.assertEqual(value, ([1], {2: [3]}))

    def test_by_name(self):
        self.assertEqual(least_word(relation=((2,), (2,), (2,)), judge=WALK), (0, 0))


class LongRelations(Case):
    def test_the_example(self):
        self.assertEqual(long_relations(WALK), (((2,), (2,), (2,)),))
        self.assertEqual(block_length(WALK), 2)

    def test_all_are_long(self):
        for judge in (NEXT, COPY, NONE, PARITY, maps_judge((1, 0)), maps_judge((1, 2, 3, 4, 0), (1, 0, 2, 3, 4))):
            self.assertEqual(long_relations(judge), all_relations(judge))
            self.assertEqual(block_length(judge), 1)

    def test_a_line_of_states(self):
        for states in range(1, 9):
            judge = maps_judge(tuple([min(state + 1, states - 1) for state in range(states)]))
            self.assertEqual(long_relations(judge), (((states - 1,),) * states,))
            self.assertEqual(block_length(judge), max(1, states - 1))

    def test_a_line_into_a_circle(self):
        # 0, 1, 2, 3 and then around 3, 4, 5: the words of 1 and 2 letters alone have their relations.
        judge = maps_judge((1, 2, 3, 4, 5, 3))
        self.assertEqual(block_length(judge), 3)
        self.assertEqual(len(all_relations(judge)), 5)
        self.assertEqual(len(long_relations(judge)), 3)

    def test_a_line_that_only_one_letter_leaves(self):
        # Letter 0 waits, letter 1 goes on: each word may be made longer by letter 0.
        judge = maps_judge((0, 1, 2, 3), (1, 2, 3, 3))
        self.assertEqual(long_relations(judge), all_relations(judge))
        self.assertEqual(block_length(judge), 1)

    def test_a_relation_behind_a_loop_is_long(self):
        # The state of letter 2 is a dead end, but many words lead before it.
        judge = (((0, 1), (None, None), (2, 2)), ((1, 1), (1, 1), (2, 2)), ((None, None), (None, None), (None, None)))
        plain = Layers(judge)
        self.assertEqual(long_relations(judge), plain.long_relations())
        self.assertEqual(block_length(judge), plain.block_length())

    def test_a_longest_way_that_is_not_the_shortest(self):
        # Letter 1 skips a state, so the last short relation has words of several lengths.
        judge = maps_judge((1, 2, 3, 4, 5, 5), (2, 3, 4, 5, 5, 5))
        plain = Layers(judge)
        self.assertEqual(block_length(judge), plain.block_length())
        self.assertEqual(block_length(judge), 5)

    def test_against_a_plain_listing(self):
        lengths = []
        for judge in SMALL:
            plain = Layers(judge)
            relations = long_relations(judge)
            self.assertEqual(relations, plain.long_relations())
            self.assert_plain(relations)
            self.assertEqual(block_length(judge), plain.block_length())
            self.assertIs(type(block_length(judge)), int)
            lengths.append(block_length(judge))
        self.assertTrue({1, 2, 3, 4, 5} <= set(lengths), sorted(set(lengths)))

    def test_all_long_words_have_long_relations(self):
        for judge in SMALL[::6]:
            length = block_length(judge)
            relations = long_relations(judge)
            if length <= 4:
                for word in words_of(len(judge[0]), length) + words_of(len(judge[0]), length + 1):
                    self.assertIn(relation_by_outputs(judge, word), relations)
            if 1 < length <= 5:
                before = [relation_by_steps(judge, word) for word in words_of(len(judge[0]), length - 1)]
                self.assertFalse(set(before) <= set(relations))

    def test_by_name(self):
        self.assertEqual(long_relations(judge=WALK), (((2,), (2,), (2,)),))
        self.assertEqual(block_length(judge=WALK), 2)
