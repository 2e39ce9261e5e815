"""Section 7: the words with a relation, counted and found, loops, and the limit of 2000 relations;
of section 4, guarantee (g) for words with a relation."""

import copy
import itertools
import random

from leastahead.errors import NoRelation, NotLong, NoWord
from leastahead.relations import (
    all_relations, block_length, composed, count_words, first_word, is_relation, least_word, long_relations, loop_of,
    relation_of, shows_loop,
)
from tests.cases import Case
from tests.plain import Layers, relation_by_outputs, relation_by_steps, words_of
from tests.samples import (
    COPY, FAR, GREAT, MAPS, NEXT, NONE, PARITY, SPARSE, STRANGE, TURNS, WALK, line_judge, maps_judge, replaced,
    small_judges,
)

LATE = ((0,), (), (0,))
EVEN, ODD = ((0,), (1,)), ((1,), (0,))
ALMOST_ODD = (
    [(1,), (0,)], ([1], [0]), ((True,), (0,)), ((1,), (False,)), ((1,),), ((1,), (0,), ()), ((1,), 0),
)
LINES = [line_judge(states, inputs, 2, states) for states in range(2, 6) for inputs in (1, 2)]
SMALL = [NEXT, FAR, WALK, COPY, NONE, SPARSE, PARITY] + LINES + small_judges(60, 21)

# Judges with a known number of relations at the limit. In one of each two, some word other than () has the
# relation of (), which then counts.
JUST_BELOW = maps_judge((1, 2, 3, 2, 4, 0), (2, 3, 5, 2, 0, 4))
AT_LIMIT = (((3, 2), (1, 3)), ((3, 4), (None, 2)), ((1, 3), (0, 4)), ((None, 3), (3, None)), ((None, 0), (2, None)))
AT_LIMIT_TOO = maps_judge((0, 3, 3, 5, 5, 4), (2, 4, 0, 5, 1, 3), (0, 4, 3, 2, 1, 2))
BEYOND = (((4, 4), (0, 1)), ((0, 0), (1, None)), ((2, None), (None, 0)), ((4, None), (3, None)), ((1, None), (None, 2)))
BEYOND_TOO = maps_judge((1, 5, 3, 2, 0, 2), (0, 2, 1, 3, 4, 5), (1, 0, 2, 5, 3, 1))


def nothing(judge):
    return tuple([(state,) for state in range(len(judge))])


def longer_words():
    """Judges, relations, lengths, how many words there are, and the first one, None if there is none."""
    for judge in SMALL[::4]:
        plain = Layers(judge)
        for length in (5, 6, 20, 61):
            for relation in plain.all_relations():
                yield (judge, relation, length) + plain.layer(length).get(relation, (0, None))


class CountWords(Case):
    def test_the_example(self):
        self.assertEqual(count_words(NEXT, ((1, 2), (), (1, 2)), 3), 4)

    def test_against_a_listing_of_all_words(self):
        for judge in SMALL:
            relations = all_relations(judge)
            for length in range(1, 5):
                listed = [relation_by_outputs(judge, word) for word in words_of(len(judge[0]), length)]
                for relation in relations:
                    self.assertEqual(count_words(judge, relation, length), listed.count(relation))

    def test_all_relations_together_have_all_words(self):
        for judge in SMALL:
            relations = all_relations(judge)
            for length in (1, 7, 40) + ((399, 400) if len(relations) < 12 else ()):
                counts = [count_words(judge, relation, length) for relation in relations]
                self.assertEqual(sum(counts), len(judge[0]) ** length)

    def test_longer_words(self):
        for judge, relation, length, count, word in longer_words():
            self.assertEqual(count_words(judge, relation, length), count)

    def test_exactly_for_400_letters(self):
        for length in (1, 2, 100, 399, 400, 401):
            self.assertEqual(count_words(NEXT, ((1, 2), (), (1, 2)), length), 2 ** (length - 1))
            self.assertEqual(count_words(PARITY, EVEN, length), (3 ** length + 1) // 2)
            self.assertEqual(count_words(PARITY, ODD, length), (3 ** length - 1) // 2)
            self.assertEqual(count_words(COPY, ((0,),), length), 2 ** length)
            self.assertEqual(count_words((((0,), (0,), (0,), (None,)),), ((0,),), length), 3 ** length)
            self.assertEqual(count_words((((0,), (0,), (0,), (None,)),), ((),), length), 4 ** length - 3 ** length)

    def test_no_word_of_this_length(self):
        self.assertEqual([count_words(WALK, ((1,), (2,), (2,)), length) for length in (1, 2, 3, 400)], [1, 0, 0, 0])
        self.assertEqual([count_words(WALK, ((2,), (2,), (2,)), length) for length in (1, 2, 3, 400)], [0, 1, 1, 1])
        exchange = maps_judge((1, 0))
        self.assertEqual([count_words(exchange, EVEN, length) for length in (1, 2, 399, 400)], [0, 1, 0, 1])

    def test_kinds(self):
        for length in (1, 2, 400):
            self.assertIs(type(count_words(WALK, ((2,), (2,), (2,)), length)), int)

    def test_by_name(self):
        self.assertEqual(count_words(length=3, relation=((1, 2), (), (1, 2)), judge=NEXT), 4)


class FirstWord(Case):
    def test_the_example(self):
        self.assertEqual(first_word(NEXT, ((1, 2), (), (1, 2)), 3), (1, 0, 0))

    def assert_first(self, judge, relation, length, expected):
        if expected is None:
            self.assert_raises(NoWord, "length", length, first_word, judge, relation, length)
        else:
            word = first_word(judge, relation, length)
            self.assertEqual(word, expected)
            self.assertIs(type(word), tuple)
            self.assert_plain(word)

    def test_against_a_listing_of_all_words(self):
        missing = 0
        for judge in SMALL:
            relations = all_relations(judge)
            for length in range(1, 5):
                words = words_of(len(judge[0]), length)
                listed = [relation_by_outputs(judge, word) for word in words]
                for relation in relations:
                    expected = words[listed.index(relation)] if relation in listed else None
                    missing += expected is None
                    self.assert_first(judge, relation, length, expected)
        self.assertGreater(missing, 50)

    def test_longer_words(self):
        for judge, relation, length, count, word in longer_words():
            self.assert_first(judge, relation, length, word)

    def test_words_of_400_letters(self):
        for judge in SMALL[::8]:
            plain = Layers(judge)
            for relation in plain.long_relations()[:6]:
                count, word = plain.layer(400).get(relation, (0, None))
                self.assert_first(judge, relation, 400, word)
        for length in (399, 400, 401):
            self.assertEqual(first_word(PARITY, EVEN, length), (0,) * length)
            self.assertEqual(first_word(PARITY, ODD, length), (0,) * (length - 1) + (1,))
            self.assertEqual(first_word(NEXT, ((1, 2), (), (1, 2)), length), (1,) + (0,) * (length - 1))

    def test_the_first_word_of_its_length_need_not_go_on_the_least_word(self):
        # Letter 1 alone leads to state 1, letter 0 then stays there or comes back.
        judge = maps_judge((0, 0), (1, 1))
        self.assertEqual(least_word(judge, ((1,), (1,))), (1,))
        self.assertEqual(first_word(judge, ((1,), (1,)), 4), (0, 0, 0, 1))

    def test_no_word_of_this_length(self):
        for length in (2, 3, 399, 400):
            self.assert_raises(NoWord, "length", length, first_word, WALK, ((1,), (2,), (2,)), length)
        self.assert_raises(NoWord, "length", 1, first_word, WALK, ((2,), (2,), (2,)), 1)
        exchange = maps_judge((1, 0))
        self.assert_raises(NoWord, "length", 399, first_word, exchange, EVEN, 399)
        self.assert_raises(NoWord, "length", 400, first_word, exchange, ODD, 400)
        self.assertEqual(first_word(exchange, EVEN, 400), (0,) * 400)

    def test_by_name(self):
        self.assertEqual(first_word(length=3, relation=((1, 2), (), (1, 2)), judge=NEXT), (1, 0, 0))


class NoSuchRelation(Case):
    def assert_no_relation(self, judge, value, length):
        self.assert_raises(NoRelation, "relation", value, count_words, judge, value, length)
        self.assert_raises(NoRelation, "relation", value, first_word, judge, value, length)

    def test_values_of_any_kind(self):
        for judge in (NEXT, WALK, PARITY):
            for value in STRANGE + (0, 1, (), ((),), [((2,), (2,), (2,))], (((2,), (2,), (2,)),)):
                self.assert_no_relation(judge, value, 2)

    def test_relations_that_only_the_empty_word_has(self):
        for judge in (NEXT, FAR, WALK, SPARSE, NONE):
            for length in (1, 2, 400):
                self.assert_no_relation(judge, nothing(judge), length)

    def test_relations_of_no_word(self):
        for relation in (((), (), ()), ((0, 1, 2),) * 3, ((1,), (2,), ())):
            self.assert_no_relation(WALK, relation, 1)

    def test_almost_relations(self):
        for wrong in ALMOST_ODD:
            self.assert_no_relation(PARITY, wrong, 2)

    def test_ahead_of_no_word(self):
        # No word of two letters has the relation of one letter, but here it is wrong itself.
        for wrong in (None, [(1,), (2,), (2,)], ((True,), (2,), (2,)), ((0,), (1,), (2,))):
            self.assert_raises(NoRelation, "relation", wrong, first_word, WALK, wrong, 2)

    def test_values_are_not_changed(self):
        for value in STRANGE:
            before = copy.deepcopy(value)
            self.assert_no_relation(WALK, value, 1)
            self.assertEqual(value, before)


def plain_is_loop(judge, relation, loop):
    u, v, w = loop
    return (v != () and relation_by_steps(judge, u) == relation_by_steps(judge, u + v)
            and relation_by_steps(judge, u + w) == relation)


class LoopOf(Case):
    def assert_loop_of(self, judge, relation, many):
        loop = loop_of(judge, relation)
        self.assertIs(type(loop), tuple)
        self.assertEqual([type(word) for word in loop], [tuple] * 3)
        self.assert_plain(loop)
        self.assertTrue(all(letter in range(len(judge[0])) for word in loop for letter in word))
        self.assertLessEqual(max([len(word) for word in loop]), many)
        self.assertTrue(plain_is_loop(judge, relation, loop), (judge, relation, loop))
        self.assertIs(shows_loop(judge, relation, loop), True)
        return loop

    def test_the_example(self):
        self.assert_loop_of(FAR, LATE, len(all_relations(FAR)))
        self.assertIs(shows_loop(FAR, LATE, ((0,), (0,), (2,))), True)
        self.assertIs(shows_loop(FAR, LATE, ((0,), (2,), (2,))), False)

    def test_every_long_relation(self):
        for judge in SMALL:
            many = len(all_relations(judge))
            for relation in Layers(judge).long_relations():
                u, v, w = self.assert_loop_of(judge, relation, many)
                for copies in range(4):
                    self.assertEqual(relation_by_steps(judge, u + v * copies + w), relation)

    def test_one_relation_alone(self):
        # The words must not have more letters than there are relations.
        for judge in (NONE, COPY):
            for relation in all_relations(judge):
                self.assert_loop_of(judge, relation, 1)
        for states in range(2, 9):
            turn = maps_judge(tuple([(state + 1) % states for state in range(states)]))
            for relation in all_relations(turn):
                self.assert_loop_of(turn, relation, states)

    def test_a_long_line_first(self):
        for states in range(3, 9):
            line = maps_judge(tuple([min(state + 1, states - 1) for state in range(states)]))
            self.assert_loop_of(line, ((states - 1,),) * states, states - 1)

    def test_many_relations(self):
        for relation in all_relations(TURNS)[::60]:
            self.assert_loop_of(TURNS, relation, 720)

    def test_short_relations(self):
        others = 0
        for judge in SMALL:
            plain = Layers(judge)
            for relation in sorted(set(plain.all_relations()) - set(plain.long_relations())):
                others += 1
                self.assert_raises(NotLong, "relation", relation, loop_of, judge, relation)
        self.assertGreater(others, 20)

    def test_relations_of_no_word_or_of_the_empty_word_alone(self):
        for judge in (NEXT, FAR, WALK, SPARSE, NONE):
            relation = nothing(judge)
            self.assert_raises(NotLong, "relation", relation, loop_of, judge, relation)
        full = ((0, 1, 2),) * 3
        self.assertIs(is_relation(FAR, full), True)
        self.assert_raises(NotLong, "relation", full, loop_of, FAR, full)

    def test_values_of_any_kind(self):
        for judge in (NEXT, FAR, WALK, PARITY):
            for value in STRANGE + (0, 1, (), ((),), (((2,), (2,), (2,)),)):
                before = copy.deepcopy(value)
                self.assert_raises(NotLong, "relation", value, loop_of, judge, value)
                self.assertEqual(value, before)

    def test_almost_relations(self):
        self.assert_loop_of(PARITY, ODD, 2)
        for wrong in ALMOST_ODD:
            self.assert_raises(NotLong, "relation", wrong, loop_of, PARITY, wrong)

    def test_by_name(self):
        self.assertEqual(loop_of(relation=LATE, judge=FAR), loop_of(FAR, LATE))


class ShowsLoop(Case):
    def assert_no_loop(self, judge, relation, value):
        self.assertIs(shows_loop(judge, relation, value), False, value)

    def test_against_the_definition(self):
        source = random.Random(22)
        loops = 0
        for judge in SMALL[:50]:
            relations = long_relations(judge)
            words = [tuple([source.randrange(len(judge[0])) for at in range(length)])
                     for length in (0, 0, 1, 1, 2, 3, 4)]
            for value in itertools.product(words, repeat=3):
                relation = relations[source.randrange(len(relations))]
                expected = plain_is_loop(judge, relation, value)
                loops += expected
                self.assertIs(shows_loop(judge, relation, value), expected, (judge, relation, value))
        self.assertGreater(loops, 300)

    def test_the_first_word_may_be_empty(self):
        self.assertIs(shows_loop(PARITY, EVEN, ((), (1, 1), ())), True)
        self.assertIs(shows_loop(PARITY, EVEN, ((), (0,), (2,))), True)
        self.assertIs(shows_loop(PARITY, ODD, ((), (0,), (1,))), True)
        self.assert_no_loop(PARITY, ODD, ((), (0,), ()))
        self.assert_no_loop(PARITY, EVEN, ((), (1,), ()))
        self.assert_no_loop(WALK, ((2,), (2,), (2,)), ((), (0,), (0, 0)))

    def test_the_middle_word_is_not_empty(self):
        self.assert_no_loop(PARITY, EVEN, ((), (), ()))
        self.assert_no_loop(PARITY, ODD, ((1,), (), ()))
        self.assert_no_loop(FAR, LATE, ((0,), (), (2,)))
        self.assertIs(shows_loop(PARITY, ODD, ((1,), (0,), ())), True)

    def test_each_part_changed(self):
        self.assertIs(shows_loop(WALK, ((2,), (2,), (2,)), ((0, 0), (0,), ())), True)
        self.assert_no_loop(WALK, ((2,), (2,), (2,)), ((0,), (0,), (0,)))
        self.assertIs(shows_loop(PARITY, ODD, ((1,), (0, 2), (2, 0))), True)
        self.assert_no_loop(PARITY, ODD, ((0,), (0, 2), (2, 0)))
        self.assert_no_loop(PARITY, ODD, ((1,), (0, 1), (2, 0)))
        self.assert_no_loop(PARITY, ODD, ((1,), (0, 2), (1, 0)))

    def test_letters(self):
        loop = ((1,), (0, 2), (2, 0))
        for path in ((0, 0), (1, 0), (1, 1), (2, 0), (2, 1)):
            for letter in (-1, -2, -3, 3, GREAT, True, False, None, "0", (0,), [0], {0: 0}):
                self.assert_no_loop(PARITY, ODD, replaced(loop, path, letter))

    def test_words_of_other_kinds(self):
        loop = ((1,), (0, 2), (2, 0))
        for path in ((0,), (1,), (2,)):
            for word in STRANGE + (0, 1, [1], [0, 2], [2, 0], "02", {0: 0, 1: 2}):
                self.assert_no_loop(PARITY, ODD, replaced(loop, path, word))

    def test_other_values(self):
        loop = ((1,), (0, 2), (2, 0))
        for value in STRANGE + (0, 1, (), [(1,), (0, 2), (2, 0)], loop[:2], loop + ((),), (loop,), loop[1:], ()):
            before = copy.deepcopy(value)
            self.assert_no_loop(PARITY, ODD, value)
            self.assertEqual(value, before)

    def test_words_of_2000_letters(self):
        loop = ((1,), (0, 2), (2, 0))
        for at in range(3):
            # The added zeros change no relation, only the length.
            for length, expected in ((1999, True), (2000, True), (2001, False), (2500, False)):
                word = loop[at] + (0,) * (length - len(loop[at]))
                self.assertIs(shows_loop(PARITY, ODD, replaced(loop, (at,), word)), expected, (at, length))
        longest = tuple([word + (0,) * (2000 - len(word)) for word in loop])
        self.assertIs(shows_loop(PARITY, ODD, longest), True)

    def test_by_name(self):
        self.assertIs(shows_loop(value=((0,), (0,), (2,)), relation=LATE, judge=FAR), True)


class Limit(Case):
    def assert_all_too_many(self, judge):
        relation = relation_of(judge, (0,))
        self.assert_too_many(2000, all_relations, judge)
        self.assert_too_many(2000, long_relations, judge)
        self.assert_too_many(2000, block_length, judge)
        for value in (relation, nothing(judge), ((),) * len(judge), None, [relation], {"a": relation}, (True,)):
            self.assert_too_many(2000, least_word, judge, value)
            self.assert_too_many(2000, count_words, judge, value, 1)
            self.assert_too_many(2000, first_word, judge, value, 1)
            self.assert_too_many(2000, first_word, judge, value, 400)
            self.assert_too_many(2000, loop_of, judge, value)
            self.assert_too_many(2000, shows_loop, judge, relation, value)
        self.assert_too_many(2000, shows_loop, judge, relation, ((0,), (0,), ()))
        self.assert_too_many(2000, shows_loop, judge, relation, ((), (), ()))

    def assert_answers(self, judge, many):
        relations = all_relations(judge)
        self.assertEqual(len(relations), many)
        self.assertEqual(list(relations), sorted(set(relations)))
        self.assertTrue(set(long_relations(judge)) <= set(relations))
        self.assertGreaterEqual(block_length(judge), 1)
        for relation in relations[::many // 9]:
            word = least_word(judge, relation)
            self.assertEqual(relation_by_steps(judge, word), relation)
            self.assertGreaterEqual(count_words(judge, relation, len(word)), 1)
            self.assertEqual(first_word(judge, relation, len(word)), word)
        relation = long_relations(judge)[0]
        self.assertIs(shows_loop(judge, relation, loop_of(judge, relation)), True)
        self.assert_raises(NoRelation, "relation", None, least_word, judge, None)
        self.assert_raises(NotLong, "relation", None, loop_of, judge, None)

    def test_far_below(self):
        every = [tuple([(goal,) for goal in goals]) for goals in itertools.permutations(range(6))]
        self.assertEqual(all_relations(TURNS), tuple(sorted(every)))
        self.assertEqual(long_relations(TURNS), tuple(sorted(every)))
        self.assertEqual(block_length(TURNS), 1)
        self.assert_answers(TURNS, 720)

    def test_just_below(self):
        self.assertNotIn(nothing(JUST_BELOW), all_relations(JUST_BELOW))
        self.assert_answers(JUST_BELOW, 1999)

    def test_at_the_limit(self):
        self.assertNotIn(nothing(AT_LIMIT), all_relations(AT_LIMIT))
        self.assert_answers(AT_LIMIT, 2000)
        self.assertIn(nothing(AT_LIMIT_TOO), all_relations(AT_LIMIT_TOO))
        self.assert_answers(AT_LIMIT_TOO, 2000)

    def test_just_beyond(self):
        self.assert_all_too_many(BEYOND)
        self.assert_all_too_many(BEYOND_TOO)

    def test_far_beyond(self):
        self.assert_all_too_many(MAPS)
        turn, exchange, join = (1, 2, 3, 4, 5, 6, 7, 0), (1, 0, 2, 3, 4, 5, 6, 7), (0, 0, 2, 3, 4, 5, 6, 7)
        self.assert_all_too_many(maps_judge(turn, exchange, join))

    def test_what_has_no_limit(self):
        one, other = relation_of(MAPS, (0, 1)), relation_of(MAPS, (2,))
        self.assertEqual(composed(one, other), relation_by_outputs(MAPS, (0, 1, 2)))
        self.assertIs(is_relation(MAPS, one), True)
        self.assertIs(is_relation(MAPS, None), False)

    def test_words_of_400_letters(self):
        some = all_relations(AT_LIMIT)[::200]
        relation = long_relations(AT_LIMIT)[0]
        self.assertGreater(count_words(AT_LIMIT, relation, 400), 0)
        self.assertEqual(relation_by_steps(AT_LIMIT, first_word(AT_LIMIT, relation, 400)), relation)
        listed = [word for word in words_of(2, 8) if relation_by_steps(AT_LIMIT, word) in some]
        self.assertEqual(sum([count_words(AT_LIMIT, one, 8) for one in some]), len(listed))
