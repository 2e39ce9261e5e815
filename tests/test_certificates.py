"""Section 12: certificates and the words of their blocks; of section 4, the first half of guarantee (d)."""

import copy
import itertools
import random

from leastahead.certificates import block_word, certificate, shows_certificate
from leastahead.least import least_ahead
from leastahead.relations import all_relations
from tests.cases import Case
from tests.plain import Layers, plain_is_certificate, plain_is_enough, plain_ranks
from tests.samples import (
    COPY, ENDLESS, FAR, FAR_CERTIFICATE, MAPS, NEXT, NONE, SPARSE, STRANGE, TURNS, TURNS_OF_SEVEN, WALK,
    all_paths, begun_at, later_judge, maps_judge, mixed, part_at, race_judge, replaced, small_judges, spoiled,
    sums_judge, with_unreached,
)

BLOCKS, ROWS = FAR_CERTIFICATE
WINNABLE = [NEXT, WALK, COPY, SPARSE, later_judge(1), later_judge(2), sums_judge(3), race_judge(2), race_judge(6, 2)]


class Certificate(Case):
    def assert_certificate(self, judge):
        value = certificate(judge)
        self.assert_plain(value)
        self.assertTrue(plain_is_certificate(judge, value), (judge, value))
        self.assertIs(shows_certificate(judge, value), True)
        self.assertEqual(certificate(judge), value)
        for u, v, w in value[0]:
            self.assertTrue(all(letter in range(len(judge[0])) for letter in u + v + w))
        return value

    def test_examples(self):
        self.assert_certificate(FAR)
        self.assertIsNone(certificate(NEXT))
        self.assert_certificate(NONE)

    def test_none_if_some_look_ahead_is_enough(self):
        for judge in WINNABLE:
            self.assertIsNone(certificate(judge))

    def test_no_look_ahead_is_enough(self):
        longest = 0
        for judge in ENDLESS:
            longest = max(longest, len(self.assert_certificate(judge)[1]))
        self.assertGreater(longest, 5)

    def test_exactly_if_none_is_enough(self):
        met = {True: 0, False: 0}
        for judge in small_judges(200, 61) + small_judges(50, 62, 4, 2, 3):
            value = certificate(judge)
            met[value is None] += 1
            self.assertIs(value is None, least_ahead(judge) is not None)
            if value is None:
                lost = [state for state, relation in plain_ranks(judge, Layers(judge).long_relations())]
                self.assertNotIn(0, lost)
            else:
                self.assert_certificate(judge)
                self.assertFalse(any(plain_is_enough(judge, ahead) for ahead in range(3)))
        self.assertGreater(min(met.values()), 80)

    def test_other_sequences_and_states_that_are_not_reached(self):
        source = random.Random(63)
        for judge in ENDLESS:
            self.assert_certificate(mixed(judge, source))
            if len(judge) < 5:
                self.assert_certificate(mixed(with_unreached(judge, source), source))
        for judge in (NEXT, WALK, COPY, SPARSE, sums_judge(2)):
            self.assertIsNone(certificate(mixed(with_unreached(judge, source), source)))

    def test_refused_only_behind_a_long_way(self):
        for states in range(1, 9):
            value = self.assert_certificate(maps_judge(list(range(1, states)) + [None]))
            # Only blocks of at least so many letters are refused.
            self.assertGreaterEqual(min([len(block_word(block, 0)) for block in value[0]]), states)

    def test_more_than_2000_relations(self):
        for judge in (TURNS_OF_SEVEN, MAPS, replaced(TURNS_OF_SEVEN, (3, 1, 0), None)):
            self.assert_too_many(2000, certificate, judge)

    def test_720_relations(self):
        self.assertIsNone(certificate(TURNS))

    def test_many_relations(self):
        judge = maps_judge((1, 2, 3, 4, 0), (1, 0, 2, 3, 4), (0, 1, 2, 3, None))
        self.assertEqual(len(all_relations(judge)), 1546)
        self.assert_certificate(judge)

    def test_by_name(self):
        self.assertEqual(certificate(judge=FAR), certificate(FAR))


class ShowsCertificate(Case):
    def assert_as_plain(self, judge, value):
        """Check a value that has the form of a certificate."""
        expected = plain_is_certificate(judge, value)
        self.assertIs(shows_certificate(judge, value), expected, (judge, value))
        return expected

    def assert_none(self, judge, value):
        before = copy.deepcopy(value)
        self.assertIs(shows_certificate(judge, value), False, value)
        self.assertEqual(value, before)

    def samples(self):
        return [(FAR, FAR_CERTIFICATE)] + [(judge, certificate(judge)) for judge in ENDLESS]

    def test_examples(self):
        self.assertIs(shows_certificate(FAR, FAR_CERTIFICATE), True)
        self.assert_none(FAR, (BLOCKS, ROWS[::-1]))
        self.assertIs(shows_certificate(FAR, certificate(FAR)), True)

    def test_a_row_left_out(self):
        for judge, (blocks, rows) in self.samples():
            for at in range(len(rows)):
                self.assert_as_plain(judge, (blocks, rows[:at] + rows[at + 1:]))
        for at in range(4):
            self.assert_none(FAR, (BLOCKS, ROWS[:at] + ROWS[at + 1:]))
        # Without the last row, the last one is not of the start.
        self.assert_none(FAR, (BLOCKS, ROWS[:-1]))

    def test_a_row_twice(self):
        for judge, (blocks, rows) in self.samples():
            for at, place in itertools.product(range(len(rows)), range(len(rows) + 1)):
                self.assert_as_plain(judge, (blocks, rows[:place] + rows[at:at + 1] + rows[place:]))
        for at in range(5):
            self.assertIs(shows_certificate(FAR, (BLOCKS, ROWS[:at + 1] + ROWS[at:])), True)
        self.assert_none(FAR, (BLOCKS, ROWS + ROWS[:1]))

    def test_rows_exchanged(self):
        met = {True: 0, False: 0}
        for judge, (blocks, rows) in self.samples():
            for one, other in itertools.combinations(range(len(rows)), 2):
                value = replaced(replaced(rows, (one,), rows[other]), (other,), rows[one])
                met[self.assert_as_plain(judge, (blocks, value))] += 1
        self.assertGreater(min(met.values()), 10)

    def test_a_number_of_a_row_changed(self):
        met = {True: 0, False: 0}
        for judge, (blocks, rows) in self.samples():
            for at, part in itertools.product(range(len(rows)), range(3)):
                for number in range(-2, 9):
                    met[self.assert_as_plain(judge, (blocks, replaced(rows, (at, part), number)))] += 1
        self.assertGreater(min(met.values()), 50)

    def test_a_letter_changed(self):
        met = {True: 0, False: 0}
        for judge, value in self.samples():
            for path in [path for path in all_paths(value) if path[:1] == (0,) and len(path) == 4]:
                for letter in range(len(judge[0])):
                    met[self.assert_as_plain(judge, replaced(value, path, letter))] += 1
                for letter in (-1, -2, len(judge[0]), 4):
                    self.assert_none(judge, replaced(value, path, letter))
        self.assertGreater(min(met.values()), 50)

    def test_words_longer_shorter_and_empty(self):
        met = {True: 0, False: 0}
        for judge, value in self.samples():
            for path in [path for path in all_paths(value) if path[:1] == (0,) and len(path) == 3]:
                word = part_at(value, path)
                others = [word + (letter,) for letter in range(len(judge[0]))] + [word[:-1], word[1:], (), word * 2]
                for other in others:
                    met[self.assert_as_plain(judge, replaced(value, path, other))] += 1
                self.assert_none(judge, replaced(value, path[:2] + (1,), ()))
        self.assertGreater(min(met.values()), 50)

    def test_words_of_2000_letters(self):
        # Letter 0 waits: one of them or many make no difference. The third word of block 0 may be of these, too.
        for path in ((0, 0), (0, 1), (0, 2), (1, 0), (1, 1), (2, 0), (2, 1)):
            for length, expected in ((1999, True), (2000, True), (2001, False), (3000, False)):
                value = replaced(FAR_CERTIFICATE, (0,) + path, (0,) * length)
                self.assertIs(shows_certificate(FAR, value), expected, (path, length))
        every = (((0,) * 2000,) * 3,) + BLOCKS[1:]
        self.assertIs(shows_certificate(FAR, (every, ROWS)), True)

    def test_the_words_u_and_w_may_be_empty(self):
        judge = (((0,), (None,)),)
        for block in (((), (0,), (1,)), ((), (0, 0), (1,)), ((1,), (0,), ()), ((0,), (0,), (1, 0)), ((1,), (1,), ())):
            self.assertIs(shows_certificate(judge, ((block,), ((0, 0, 0),))), True)
        for block in (((), (1,), ()), ((), (0,), ()), ((0,), (0,), ()), ((0,), (1,), (1,)), ((), (1,), (1,))):
            self.assert_none(judge, ((block,), ((0, 0, 0),)))

    def test_blocks_that_may_be_empty_words(self):
        # The first block may have no letter, as its relation is that of the word ().
        judge = (((0,), (None,)),)
        blocks = (((), (0,), ()), ((), (0,), (1,)))
        self.assertIs(shows_certificate(judge, (blocks, ((0, 1, 0), (0, 0, 1)))), True)
        self.assert_none(judge, (blocks, ((0, 0, 1), (0, 1, 0))[:1]))
        self.assert_none(judge, (blocks, ((0, 1, 0), (0, 0, 0))))

    def test_a_row_may_not_rest_on_itself_or_a_later_one(self):
        judge = (((0,),),)
        block = ((0,), (0,), ())
        self.assert_none(judge, ((block,), ((0, 0, 0),)))
        self.assert_none(judge, ((block, block), ((0, 0, 1), (0, 1, 0))))

    def test_no_blocks_or_no_rows(self):
        self.assert_none(FAR, ((), ()))
        self.assert_none(FAR, (BLOCKS, ()))
        self.assert_none(FAR, ((), ROWS))
        self.assert_none(NONE, ((), ((0, 0, 0),)))
        self.assertIs(shows_certificate(NONE, ((((0,), (0,), ()),), ((0, 0, 0),))), True)

    def test_further_blocks(self):
        # A block that no row names must be a block all the same.
        self.assertIs(shows_certificate(FAR, (BLOCKS + BLOCKS[:1], ROWS)), True)
        self.assertIs(shows_certificate(FAR, (BLOCKS + (((1,), (1,), ()),), ROWS)), True)
        self.assert_none(FAR, (BLOCKS + (((1,), (0,), ()),), ROWS))
        self.assert_none(FAR, (BLOCKS + (((0,), (), ()),), ROWS))
        self.assert_none(FAR, (BLOCKS + ((),), ROWS))
        self.assert_none(FAR, (BLOCKS[:2], ROWS))

    def test_equal_blocks_are_not_the_same_block(self):
        # The rows of the index that is named are needed, not those of a block with the same words.
        blocks = BLOCKS + BLOCKS[1:2]
        self.assert_none(FAR, (blocks, replaced(ROWS, (3, 2), 3)))
        self.assertIs(shows_certificate(FAR, (blocks, ((2, 3, 0),) + replaced(ROWS, (3, 2), 3))), True)

    def test_further_rows(self):
        self.assertIs(shows_certificate(FAR, (BLOCKS, ((2, 1, 1),) + ROWS)), True)
        self.assert_none(FAR, (BLOCKS, ((0, 0, 0),) + ROWS))
        self.assert_none(FAR, (BLOCKS, ROWS + ((1, 2, 0),)))
        self.assertIs(shows_certificate(FAR, (BLOCKS, ROWS + ((1, 2, 0), (0, 0, 0)))), True)

    def test_the_next_block_of_a_row_that_leads_nowhere_must_be_there(self):
        for number in (0, 1, 2):
            self.assertIs(shows_certificate(FAR, (BLOCKS, replaced(ROWS, (0, 2), number))), True)
        for number in (-1, 3):
            self.assert_none(FAR, (BLOCKS, replaced(ROWS, (0, 2), number)))

    def test_one_part_of_another_kind(self):
        for judge, value in self.samples()[:4]:
            for other in spoiled(value):
                self.assert_none(judge, other)

    def test_parts_of_other_lengths(self):
        value = FAR_CERTIFICATE
        for path in [path for path in all_paths(value) if len(path) in (0, 2)]:
            part = part_at(value, path)
            for other in (part[:-1], part[1:], part + part[-1:], part + ((),), ()):
                self.assert_none(FAR, replaced(value, path, other))

    def test_values_of_any_kind(self):
        for value in STRANGE + (0, 1, (), ((), ()), BLOCKS, ROWS, (ROWS, BLOCKS), (FAR_CERTIFICATE,)):
            for judge in (FAR, NONE, NEXT):
                self.assert_none(judge, value)
        for value in STRANGE + (0, 1, (), ((), ()), FAR_CERTIFICATE):
            self.assert_none(FAR, (value, ROWS))
            self.assert_none(FAR, (BLOCKS, value))
            self.assert_none(FAR, replaced(FAR_CERTIFICATE, (0, 1), value))
            self.assert_none(FAR, replaced(FAR_CERTIFICATE, (1, 1), value))

    def test_certificates_of_other_judges(self):
        samples = self.samples()
        for (one, value), (other, more) in itertools.permutations(samples, 2):
            if len(one[0]) <= len(other[0]) and len(one) <= len(other):
                self.assert_as_plain(other, value)

    def test_no_certificate_where_a_look_ahead_is_enough(self):
        source = random.Random(64)
        for judge in (NEXT, COPY, SPARSE, WALK, begun_at(NEXT, 0)):
            for at in range(100):
                words = [tuple([source.randrange(len(judge[0])) for letter in range(many)]) for many in (1, 2, 0, 3)]
                block = (source.choice(words), words[0], source.choice(words))
                rows = tuple([(source.randrange(len(judge)), 0, 0) for row in range(3)]) + ((0, 0, 0),)
                self.assert_none(judge, ((block,), rows))

    def test_more_than_2000_relations(self):
        # The limit is for certificate, not for shows_certificate.
        judge = maps_judge((1, 2, 3, 4, 5, 6, 0), (1, 0, 2, 3, 4, 5, 6), (None,) * 7)
        self.assert_too_many(2000, certificate, judge)
        value = ((((2,), (2,), ()),), ((0, 0, 0),))
        self.assertIs(shows_certificate(judge, value), True)
        self.assert_none(judge, replaced(value, (0, 0, 0), (1,)))
        self.assert_none(TURNS_OF_SEVEN, value)

    def test_by_name(self):
        self.assertIs(shows_certificate(value=FAR_CERTIFICATE, judge=FAR), True)


class BlockWord(Case):
    def test_the_example(self):
        self.assertEqual(block_word(((0,), (0,), (2,)), 4), (0, 0, 0, 2))

    def test_the_shortest_word_that_is_long_enough(self):
        words = ((), (0,), (2, 2, 1), (3,) * 7, tuple(range(4)) * 30)
        for u, v, w in itertools.product(words, words[1:], words):
            # Every word of the block in turn, up to one that is long enough for all.
            longer = [u + v * copies + w for copies in range(402)]
            for least in (0, 1, 2, 3, 4, 5, 9, 17, 100, 101, 399, 400):
                self.assertEqual(block_word((u, v, w), least), next(word for word in longer if len(word) >= least))

    def test_every_number(self):
        for u, v, w in (((), (0,), ()), ((1,), (0, 2), ()), ((), (0, 1, 2), (1,)), ((1, 2), (0,) * 5, (2, 1, 0))):
            ends = len(u) + len(w)
            for least in range(401):
                copies = 0
                while ends + copies * len(v) < least:
                    copies += 1
                word = block_word((u, v, w), least)
                self.assertEqual(word, u + v * copies + w)
                self.assert_plain(word)

    def test_no_copies(self):
        self.assertEqual(block_word(((), (0,), ()), 0), ())
        self.assertEqual(block_word(((1,), (0,), (2,)), 0), (1, 2))
        self.assertEqual(block_word(((1,), (0,), (2,)), 2), (1, 2))
        self.assertEqual(block_word(((1,), (0,), (2,)), 3), (1, 0, 2))
        self.assertEqual(block_word(((1,) * 2000, (0,), (2,) * 2000), 400), (1,) * 2000 + (2,) * 2000)

    def test_long_words(self):
        self.assertEqual(block_word(((), (0,) * 2000, ()), 1), (0,) * 2000)
        self.assertEqual(block_word(((1,), (0,) * 2000, (1,)), 3), (1,) + (0,) * 2000 + (1,))

    def test_by_name(self):
        self.assertEqual(block_word(least=4, block=((0,), (0,), (2,))), (0, 0, 0, 2))
