"""Section 10: the least look-ahead and its bound; of section 4, guarantees (b) and (c)."""

import itertools
import random

from leastahead.least import ahead_bound, least_ahead
from leastahead.pairs import is_enough
from leastahead.relations import block_length
from tests.cases import Case
from tests.plain import Layers, plain_is_enough, plain_ranks
from tests.samples import (
    COPY, FAR, MAPS, NEXT, NONE, PARITY, SPARSE, TURNS, TURNS_OF_SEVEN, WALK, begun_at, entry_paths, later_judge,
    line_judge, maps_judge, mixed, part_at, race_judge, replaced, small_judges, sums_judge, uniform, with_unreached,
)

# Judges whose least look-ahead is known by hand.
KNOWN = (
    (COPY, 0), (SPARSE, 0), (PARITY, 0), (WALK, 0), (uniform(8, 4, 4, 7), 0), (uniform(1, 1, 1, 0), 0),
    # The inputs themselves, of three and of four letters.
    ((((0, None, None), (None, 0, None), (None, None, 0)),), 0),
    ((tuple([tuple([0 if x == y else None for y in range(4)]) for x in range(4)]),), 0),
    # The input letter one or two places further.
    (NEXT, 1), (later_judge(1), 1), (later_judge(1, 3), 1), (later_judge(2), 2),
    # The parity of the next inputs, in one to four phases.
    (sums_judge(1), 0), (sums_judge(2), 1), (sums_judge(3), 2), (sums_judge(4), 3),
    # Which one of two letters comes first within so many letters.
    (race_judge(1), 1), (race_judge(2), 2), (race_judge(3), 3), (race_judge(4), 4), (race_judge(5), 5),
    (race_judge(6), 6), (race_judge(1, 2), 1), (race_judge(4, 2), 4), (race_judge(5, 2), 5),
    # A promise without end.
    (FAR, None),
    # Letters without an output: at once, for one letter, behind some way.
    (NONE, None), (uniform(3, 2, 2, None), None), ((((0,), (None,)),), None),
    ((((0, 0), (0, None), (None, None)),), None),
    (maps_judge((1, 2, 3, 4, 5, 6, 7, 7), (1, 2, 3, 4, 5, 6, 7, None)), None), ((((1,),), ((2,),), ((None,),)), None),
    # A start that foretold a letter before.
    (begun_at(later_judge(1), 1), None), (begun_at(later_judge(2), 3), None),
)

# More than 20000 pairs for look-ahead 6, which is the least one that is enough.
TOO_FAR = race_judge(6, 2)
SMALL = [judge for judge, least in KNOWN] + small_judges(200, 41) + small_judges(60, 42, 4, 2, 3)


class Known(Case):
    def test_examples(self):
        self.assertEqual([least_ahead(NEXT), least_ahead(FAR), least_ahead(WALK), ahead_bound(WALK)], [1, None, 0, 3])

    def test_by_hand(self):
        for judge, least in KNOWN:
            self.assert_same(least_ahead(judge), least, judge)

    def test_other_sequences_of_states_and_letters(self):
        source = random.Random(43)
        for judge, least in KNOWN:
            for at in range(3):
                other = mixed(judge, source)
                self.assert_same(least_ahead(other), least, other)
                self.assertEqual(ahead_bound(other), ahead_bound(judge))

    def test_states_that_are_not_reached(self):
        source = random.Random(44)
        for judge, least in KNOWN:
            for at in range(3):
                # The further states may have far more relations than the judge.
                if len(judge) < 6:
                    self.assert_same(least_ahead(mixed(with_unreached(judge, source), source)), least, judge)

    def test_all_judges_of_one_state(self):
        for inputs, outputs in itertools.product((1, 2), (1, 2)):
            for entries in itertools.product((None, 0), repeat=inputs * outputs):
                rows = tuple([entries[x * outputs:(x + 1) * outputs] for x in range(inputs)])
                expected = 0 if all(0 in row for row in rows) else None
                self.assert_same(least_ahead((rows,)), expected, rows)
                self.assert_same(ahead_bound((rows,)), None if expected is None else 1, rows)

    def assert_same(self, result, expected, judge):
        self.assertEqual(result, expected, judge)
        self.assertIs(type(result), type(expected))

    def test_by_name(self):
        self.assertEqual(least_ahead(judge=NEXT), 1)
        self.assertEqual(ahead_bound(judge=NEXT), 1)

    def test_again(self):
        for judge, least in KNOWN:
            self.assertEqual(least_ahead(judge), least_ahead(judge))


class Plain(Case):
    def test_against_safe_pairs(self):
        met = {None: 0, 0: 0, 1: 0}
        for judge in SMALL:
            least, bound = least_ahead(judge), ahead_bound(judge)
            met[least] = met.get(least, 0) + 1
            self.assertIs(least is None, bound is None)
            for ahead in range(4):
                if len(judge) * len(judge[0]) ** ahead <= 300:
                    enough = least is not None and ahead >= least
                    self.assertIs(plain_is_enough(judge, ahead), enough, (judge, ahead))
        self.assertGreater(min(met[None], met[0]), 50)
        self.assertGreater(met[1], 4)

    def test_the_least_one_is_enough_and_no_smaller_one(self):
        for judge in SMALL:
            least = least_ahead(judge)
            if least is not None:
                self.assertEqual([is_enough(judge, ahead) for ahead in range(least + 1)], [False] * least + [True])

    def test_exactly_if_all_positions_of_the_start_are_won(self):
        for judge in SMALL:
            if len(judge) < 5:
                lost = [state for state, relation in plain_ranks(judge, Layers(judge).long_relations())]
                self.assertIs(least_ahead(judge) is None, 0 in lost, judge)

    def test_a_further_allowed_letter_does_no_harm(self):
        changed = less = 0
        for judge in [judge for judge in SMALL if len(judge) < 5]:
            least = least_ahead(judge)
            for path in entry_paths(judge):
                if least is not None and part_at(judge, path) is None:
                    for entry in range(len(judge)):
                        changed += 1
                        other = least_ahead(replaced(judge, path, entry))
                        self.assertIsNotNone(other)
                        self.assertLessEqual(other, least)
                        less += other < least
        self.assertGreater(changed, 300)
        self.assertGreater(less, 5)


class Bound(Case):
    def test_by_the_block_length(self):
        for judge in SMALL:
            least = least_ahead(judge)
            if least is None:
                self.assertIsNone(ahead_bound(judge))
            else:
                length = Layers(judge).block_length() if len(judge) < 4 else block_length(judge)
                self.assertEqual(ahead_bound(judge), 2 * length - 1)
                self.assertLessEqual(least, ahead_bound(judge))

    def test_known_block_lengths(self):
        for ahead in range(1, 7):
            # The waits are counted up to the number behind which all of them are alike.
            self.assertEqual(ahead_bound(race_judge(ahead)), 2 * ahead + 1)
        judges = (COPY, NEXT, later_judge(2), FAR, NONE)
        self.assertEqual([ahead_bound(judge) for judge in judges], [1, 1, 3, None, None])

    def test_lines_that_end_in_a_circle(self):
        for tail in range(8):
            for circle in range(1, 9 - tail):
                goals = list(range(1, tail + circle)) + [tail]
                line = maps_judge(goals)
                # The relations of words of fewer letters than the tail has states do not come again.
                self.assertEqual(ahead_bound(line), 2 * max(1, tail) - 1)
                self.assertEqual(least_ahead(line), 0)
                for state in range(tail + circle):
                    # Every state is reached in its turn.
                    broken = maps_judge(goals[:state] + [None] + goals[state + 1:])
                    self.assertIsNone(least_ahead(broken))
                    self.assertIsNone(ahead_bound(broken))

    def test_lines_of_several_letters(self):
        for states in range(2, 7):
            for inputs in (1, 2):
                line = line_judge(states, inputs, 2, states)
                self.assertEqual(least_ahead(line), 0)
                self.assertEqual(ahead_bound(line), 2 * Layers(line).block_length() - 1)

    def test_a_broken_line_that_is_not_reached(self):
        for states in range(2, 9):
            judge = maps_judge([0] + list(range(2, states)) + [None])
            self.assertEqual(least_ahead(judge), 0)
            # The relations tell how far the line goes, though it is not reached.
            self.assertEqual(ahead_bound(judge), 2 * (states - 1) - 1)
            for start in range(1, states):
                self.assertIsNone(least_ahead(begun_at(judge, start)))


class Limits(Case):
    def test_more_than_20000_pairs_before_one_is_enough(self):
        self.assert_too_many(20000, least_ahead, TOO_FAR)
        self.assertEqual(ahead_bound(TOO_FAR), 13)
        self.assertEqual([is_enough(TOO_FAR, ahead) for ahead in range(6)], [False] * 6)
        self.assert_too_many(20000, is_enough, TOO_FAR, 6)
        source = random.Random(45)
        for at in range(3):
            self.assert_too_many(20000, least_ahead, mixed(TOO_FAR, source))

    def test_none_though_there_are_more_than_20000_pairs(self):
        # No look-ahead is tried if none is enough.
        endless = replaced(TOO_FAR, (6, 0), (6, 6))
        self.assertIsNone(least_ahead(replaced(endless, (6, 1), (6, 6))))
        self.assertIsNone(least_ahead(uniform(8, 4, 4, None)))
        self.assertEqual(least_ahead(uniform(8, 4, 4, 0)), 0)

    def test_more_than_2000_relations(self):
        broken = replaced(TURNS_OF_SEVEN, (3, 1, 0), None)
        for judge in (TURNS_OF_SEVEN, MAPS, broken):
            self.assert_too_many(2000, least_ahead, judge)
            self.assert_too_many(2000, ahead_bound, judge)

    def test_720_relations(self):
        self.assertEqual(least_ahead(TURNS), 0)
        self.assertEqual(ahead_bound(TURNS), 1)
