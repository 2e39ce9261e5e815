"""Sections 3 and 8: safe pairs and look-aheads; of section 4, guarantees (a) and (b) for them."""

import itertools

from leastahead.errors import NotEnough
from leastahead.pairs import is_enough, safe_pairs, shows_table, table_for
from tests.cases import Case
from tests.plain import plain_is_enough, plain_safe_pairs, plain_table, words_of, words_up_to
from tests.samples import (
    COPY, FAR, NEXT, NONE, SPARSE, WALK, begun_at, entry_paths, later_judge, maps_judge, part_at, random_judges,
    replaced, small_judges, uniform,
)

# Judges whose start is safe with some pending letters and not with others.
FORETOLD = [begun_at(later_judge(1), 1), begun_at(later_judge(1), 2)]
FORETOLD += [begun_at(later_judge(2), state) for state in range(1, 7)]
SMALL = [NEXT, FAR, WALK, COPY, NONE, SPARSE] + FORETOLD + small_judges(150, 31)


class SafePairs(Case):
    def test_examples(self):
        self.assertEqual(safe_pairs(NEXT, 1), ((0, (0,)), (0, (1,)), (1, (0,)), (2, (1,))))
        self.assertEqual(safe_pairs(NEXT, 0), ())

    def test_against_a_plain_computation(self):
        kinds = set()
        for judge in SMALL + random_judges(30, 32):
            for ahead in range(4):
                if len(judge) * len(judge[0]) ** ahead <= 300:
                    pairs = safe_pairs(judge, ahead)
                    self.assertEqual(pairs, plain_safe_pairs(judge, ahead), (judge, ahead))
                    self.assert_plain(pairs)
                    self.assertIs(type(pairs), tuple)
                    many = len(judge) * len(judge[0]) ** ahead
                    kinds.add((ahead, "all" if len(pairs) == many else "some" if pairs else "none"))
        self.assertEqual(kinds, set(itertools.product(range(4), ("all", "some", "none"))))

    def test_all_and_none(self):
        for ahead in range(4):
            words = words_of(2, ahead)
            self.assertEqual(safe_pairs(uniform(2, 2, 1, 1), ahead), tuple(itertools.product((0, 1), words)))
            self.assertEqual(safe_pairs(uniform(2, 2, 1, None), ahead), ())
            self.assertEqual(safe_pairs(COPY, ahead), tuple(itertools.product((0,), words)))
            self.assertEqual(safe_pairs(NONE, ahead), ())

    def test_a_letter_refused_in_one_state(self):
        # State 0 has no answer to letter 1, which may come at any time.
        judge = (((0,), (None,)), ((1,), (1,)))
        self.assertEqual(safe_pairs(judge, 0), ((1, ()),))
        self.assertEqual(safe_pairs(judge, 1), ((1, (0,)), (1, (1,))))

    def test_the_choice_must_fit_all_next_letters(self):
        # The answers to letter 0 foretell the next letter, but one must be chosen before it is read.
        self.assertEqual(safe_pairs(later_judge(1), 0), ())
        self.assertEqual(len(safe_pairs(later_judge(1), 1)), 4)

    def test_unsafe_at_last_behind_a_long_way(self):
        # The states go down to the last one, which refuses letter 1.
        line = maps_judge((1, 2, 3, 4, 5, 6, 7, 7), (1, 2, 3, 4, 5, 6, 7, None))
        for ahead in range(4):
            self.assertEqual(safe_pairs(line, ahead), ())
        # If letter 1 alone goes back to the first one, the last one is met by waiting.
        back = maps_judge((1, 2, 3, 4, 5, 6, 7, None), (0,) * 8)
        for ahead in range(4):
            self.assertEqual(safe_pairs(back, ahead), plain_safe_pairs(back, ahead))
            self.assertEqual(safe_pairs(back, ahead), ())

    def test_pairs_of_unreached_states(self):
        self.assertEqual(safe_pairs((((None,),), ((1,),)), 2), ((1, (0, 0)),))

    def test_one_input_letter_far_ahead(self):
        for ahead in (1, 50, 99, 100, 101):
            zeros = (0,) * ahead
            self.assertEqual(safe_pairs(WALK, ahead), ((0, zeros), (1, zeros), (2, zeros)))
            self.assertEqual(safe_pairs(NONE, ahead), ())
            self.assertEqual(safe_pairs((((1, None),), ((None, None),), ((2, 0),)), ahead), ((2, zeros),))

    def test_by_name(self):
        self.assertEqual(safe_pairs(ahead=0, judge=COPY), ((0, ()),))


class IsEnough(Case):
    def test_examples(self):
        self.assertIs(is_enough(NEXT, 1), True)
        self.assertIs(is_enough(NEXT, 0), False)

    def test_against_a_plain_computation(self):
        met = {(ahead, enough): 0 for ahead in range(4) for enough in (True, False)}
        for judge in SMALL + random_judges(30, 33):
            for ahead in range(4):
                if len(judge) * len(judge[0]) ** ahead <= 300:
                    enough = is_enough(judge, ahead)
                    self.assertIs(enough, plain_is_enough(judge, ahead), (judge, ahead))
                    met[(ahead, enough)] += 1
        self.assertGreater(min(met.values()), 10)

    def test_exactly_if_each_word_of_the_start_is_safe(self):
        partly = 0
        for judge in SMALL:
            for ahead in range(4):
                words = {word for state, word in safe_pairs(judge, ahead) if state == 0}
                self.assertIs(is_enough(judge, ahead), len(words) == len(judge[0]) ** ahead)
                partly += 0 < len(words) < len(judge[0]) ** ahead
        self.assertGreater(partly, 10)

    def test_the_least_one_is_known(self):
        for least in (1, 2):
            judge = later_judge(least)
            self.assertEqual([is_enough(judge, ahead) for ahead in range(6)], [ahead >= least for ahead in range(6)])
        self.assertEqual([is_enough(FAR, ahead) for ahead in range(6)], [False] * 6)
        self.assertEqual([is_enough(COPY, ahead) for ahead in range(6)], [True] * 6)

    def test_greater_ones_are_enough_too(self):
        for judge in SMALL + random_judges(40, 34):
            enough = [is_enough(judge, ahead) for ahead in range(4)]
            self.assertEqual(enough, sorted(enough))

    def test_a_further_allowed_letter_does_no_harm(self):
        changed = 0
        for judge in SMALL:
            for path in entry_paths(judge):
                if part_at(judge, path) is None:
                    other = replaced(judge, path, path[1] % len(judge))
                    for ahead in range(3):
                        if is_enough(judge, ahead):
                            changed += 1
                            self.assertIs(is_enough(other, ahead), True)
        self.assertGreater(changed, 100)

    def test_other_states_do_not_count(self):
        self.assertIs(is_enough((((0,),), ((None,),)), 0), True)
        self.assertIs(is_enough((((None,),), ((1,),)), 0), False)

    def test_by_name(self):
        self.assertIs(is_enough(ahead=1, judge=NEXT), True)


class Limit(Case):
    def test_at_the_limit_and_beyond(self):
        for states, inputs in itertools.product(range(1, 9), range(2, 5)):
            ahead = max([k for k in range(16) if states * inputs ** k <= 20000])
            judge = uniform(states, inputs, 1, states - 1)
            self.assertIs(is_enough(judge, ahead), True)
            self.assertEqual(len(safe_pairs(judge, ahead)), states * inputs ** ahead)
            refusing = uniform(states, inputs, 1, None)
            self.assertIs(is_enough(refusing, ahead), False)
            self.assertEqual(safe_pairs(refusing, ahead), ())
            self.assert_raises(NotEnough, "ahead", ahead, table_for, refusing, ahead)
            for beyond in (ahead + 1, ahead + 2, 100):
                for one in (judge, refusing):
                    self.assert_too_many(20000, safe_pairs, one, beyond)
                    self.assert_too_many(20000, is_enough, one, beyond)
                    self.assert_too_many(20000, table_for, one, beyond)

    def test_one_input_letter_has_no_limit(self):
        for states in range(1, 9):
            judge = uniform(states, 1, 2, states - 1)
            self.assertIs(is_enough(judge, 100), True)
            self.assertEqual(safe_pairs(judge, 100), tuple([(state, (0,) * 100) for state in range(states)]))
            self.assertEqual(len(table_for(judge, 100)), states)
            self.assertIs(is_enough(uniform(states, 1, 2, None), 100), False)

    def test_known_numbers_of_pairs(self):
        # 3 ** 9 = 19683, 4 * 4 ** 6 = 16384, 5 * 4 ** 6 = 20480.
        self.assertIs(is_enough(uniform(1, 3, 1, 0), 9), True)
        self.assert_too_many(20000, is_enough, uniform(2, 3, 1, 0), 9)
        self.assertIs(is_enough(uniform(4, 4, 1, 0), 6), True)
        self.assert_too_many(20000, is_enough, uniform(5, 4, 1, 0), 6)

    def test_the_output_letters_do_not_count(self):
        self.assertIs(is_enough(uniform(1, 2, 4, 0), 14), True)
        self.assert_too_many(20000, is_enough, uniform(1, 2, 4, 0), 15)

    def test_many_pairs_that_are_not_alike(self):
        judge = later_judge(2)
        pairs = safe_pairs(judge, 11)
        self.assertIs(is_enough(judge, 11), True)
        # Two output letters are known before: the pending letters must go on as they foretold.
        fitting = [(state, pending) for state, word in enumerate(words_up_to(2, 2)) for pending in words_of(2, 11)
                   if self.fits(word, pending)]
        self.assertEqual(list(pairs), fitting)

    def fits(self, word, pending):
        # With n known letters the next input letter is number n, and letter i foretells input letter i + 2.
        return all(pending[2 - len(word) + at] == letter for at, letter in enumerate(word))


class TableFor(Case):
    def test_examples(self):
        self.assertEqual(table_for(NEXT, 1),
                         ((0, (0,), (0, 1)), (0, (1,), (0, 1)), (1, (0,), (0, 1)), (2, (1,), (0, 1))))
        self.assert_raises(NotEnough, "ahead", 0, table_for, NEXT, 0)

    def test_against_a_plain_computation(self):
        met = {(ahead, enough): 0 for ahead in range(4) for enough in (True, False)}
        for judge in SMALL + random_judges(30, 35):
            for ahead in range(4):
                if len(judge) * len(judge[0]) ** ahead > 300:
                    continue
                met[(ahead, plain_is_enough(judge, ahead))] += 1
                if plain_is_enough(judge, ahead):
                    table = table_for(judge, ahead)
                    self.assertEqual(table, plain_table(judge, ahead))
                    self.assert_plain(table)
                    self.assertEqual(tuple([row[:2] for row in table]), safe_pairs(judge, ahead))
                    self.assertIs(shows_table(judge, ahead, table), True)
                else:
                    self.assert_raises(NotEnough, "ahead", ahead, table_for, judge, ahead)
        self.assertGreater(min(met.values()), 10)

    def test_the_least_answer_that_is_safe(self):
        # Output letter 0 leads to a state that refuses everything, letters 1 and 2 do not.
        judge = (((1, 0, 0), (None, 1, 2)), ((None,) * 3,) * 2, ((2, 2, 2), (1, 1, 0)))
        self.assertEqual(table_for(judge, 0), ((0, (), (1, 2)), (2, (), (0, 2))))

    def test_rows_of_states_that_are_not_reached(self):
        self.assertEqual(table_for((((0,),), ((None,),), ((2,),)), 1), ((0, (0,), (0,)), (2, (0,), (0,))))

    def test_not_enough_though_some_pairs_are_safe(self):
        # The start is safe if letter 0 is pending, but not if letter 1 is.
        judge = (((1,), (None,)), ((1,), (1,)))
        self.assertIn((0, (0,)), safe_pairs(judge, 1))
        self.assert_raises(NotEnough, "ahead", 1, table_for, judge, 1)

    def test_by_name(self):
        self.assertEqual(table_for(ahead=0, judge=COPY), ((0, (), (0, 1)),))
