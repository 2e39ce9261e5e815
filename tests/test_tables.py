"""Section 8: which values are tables, and which of their rows are used; of section 4, guarantee (a) for tables."""

import copy
import itertools
import random

from leastahead.pairs import is_enough, shows_table, table_for, used_rows
from tests.cases import Case
from tests.plain import all_pairs, answer_choices, plain_is_table, plain_safe_pairs, plain_used_rows, words_of
from tests.samples import (
    COPY, GREAT, NEXT, SPARSE, STRANGE, WALK, later_judge, nested, random_judges, replaced, small_judges, uniform,
)

# Each with a look-ahead that is enough.
ENOUGH = [(NEXT, 1), (NEXT, 2), (COPY, 0), (COPY, 2), (WALK, 0), (WALK, 3), (SPARSE, 0), (SPARSE, 1),
          (uniform(3, 2, 2, 2), 0), (uniform(3, 2, 2, 2), 1), (later_judge(1), 1), (later_judge(2), 2)]
ENOUGH += [(judge, ahead) for judge in small_judges(120, 41) + random_judges(20, 42) for ahead in range(3)
           if len(judge) * len(judge[0]) ** ahead <= 100 and is_enough(judge, ahead)]


def other_tables(judge, ahead, source, many):
    """Tables with other safe answers, and with rows left out that are then not used."""
    safe = plain_safe_pairs(judge, ahead)
    for at in range(many):
        rows = [pair + (tuple([source.choice(choice) for choice in answer_choices(judge, set(safe), pair)]),)
                for pair in safe]
        yield tuple(rows)
        yield plain_used_rows(judge, tuple(rows))


class ShowsTable(Case):
    def assert_no_table(self, judge, ahead, value):
        self.assertIs(shows_table(judge, ahead, value), False, value)

    def test_examples(self):
        table = table_for(NEXT, 1)
        self.assertIs(shows_table(NEXT, 1, table), True)
        self.assertIs(shows_table(NEXT, 1, table[1:]), False)

    def test_every_value_of_the_right_form(self):
        # All choices of rows and answers of tiny judges: some are tables exactly if the look-ahead is enough.
        met = set()
        for judge in small_judges(60, 43, 2, 2, 2):
            for ahead in (0, 1):
                pairs = all_pairs(judge, ahead)
                rows = [[()] + [(pair + (answers,),) for answers in words_of(len(judge[0][0]), len(judge[0]))]
                        for pair in pairs]
                tables = 0
                for parts in itertools.product(*rows):
                    value = tuple([row for part in parts for row in part])
                    shown = shows_table(judge, ahead, value)
                    self.assertIs(shown, plain_is_table(judge, ahead, value), (judge, ahead, value))
                    tables += shown
                self.assertIs(is_enough(judge, ahead), tables > 0)
                met.add((ahead, tables > 1, tables > 0))
        self.assertTrue({(0, True, True), (1, True, True), (0, False, False), (1, False, False)} <= met)

    def test_other_tables(self):
        source = random.Random(44)
        for judge, ahead in ENOUGH:
            for table in other_tables(judge, ahead, source, 3):
                self.assertTrue(plain_is_table(judge, ahead, table))
                self.assertIs(shows_table(judge, ahead, table), True)

    def test_one_number_changed(self):
        shown = 0
        for judge, ahead in ENOUGH[:60]:
            table = table_for(judge, ahead)
            for at in range(min(len(table), 8)):
                paths = [(at, 0)] + [(at, part, k) for part in (1, 2) for k in range(len(table[at][part]))]
                for path, number in itertools.product(paths, (-1, 0, 1, 2, 3, 4, 8, GREAT)):
                    value = replaced(table, path, number)
                    expected = plain_is_table(judge, ahead, value)
                    shown += expected
                    self.assertIs(shows_table(judge, ahead, value), expected, (judge, ahead, value))
        self.assertGreater(shown, 100)

    def test_negative_numbers_do_not_count_from_the_end(self):
        self.assert_no_table(WALK, 0, ((0, (), (-1,)), (1, (), (0,)), (2, (), (0,))))
        self.assert_no_table(WALK, 1, ((0, (-1,), (0,)), (0, (0,), (0,)), (1, (0,), (0,)), (2, (0,), (0,))))
        self.assert_no_table(WALK, 0, ((-1, (), (0,)), (0, (), (0,)), (1, (), (0,)), (2, (), (0,))))

    def test_numbers_of_other_kinds(self):
        table = table_for(NEXT, 1)
        others = (True, False, None, "0", "", (), (0,), [], [0], {}, {0: 0}, nested("list", 17), nested("tuple", 17))
        for at, other in itertools.product(range(len(table)), others):
            for path in ((at, 0), (at, 1, 0), (at, 2, 0), (at, 2, 1)):
                self.assert_no_table(NEXT, 1, replaced(table, path, other))

    def test_booleans(self):
        # True == 1 and False == 0, so that they would stand in the same places.
        self.assertIs(shows_table(COPY, 0, ((0, (), (0, 1)),)), True)
        for value in (((False, (), (0, 1)),), ((0, (), (False, 1)),), ((0, (), (0, True)),)):
            self.assert_no_table(COPY, 0, value)
        self.assertIs(shows_table(COPY, 1, ((0, (0,), (0, 0)), (0, (1,), (1, 1)))), True)
        self.assert_no_table(COPY, 1, ((0, (False,), (0, 0)), (0, (1,), (1, 1))))
        self.assert_no_table(COPY, 1, ((0, (0,), (0, 0)), (0, (True,), (1, 1))))

    def test_parts_of_other_kinds(self):
        table = table_for(NEXT, 1)
        for at in range(len(table)):
            self.assert_no_table(NEXT, 1, replaced(table, (at,), list(table[at])))
            for part in (1, 2):
                self.assert_no_table(NEXT, 1, replaced(table, (at, part), list(table[at][part])))
            for value in STRANGE + (0, 1, (), (0, 0, 0), "012", ((), (), ())):
                self.assert_no_table(NEXT, 1, replaced(table, (at,), value))
                self.assert_no_table(NEXT, 1, replaced(table, (at, 2), value))
                if value not in ((0,), (1,)):
                    self.assert_no_table(NEXT, 1, replaced(table, (at, 1), value))

    def test_longer_and_shorter_parts(self):
        for judge, ahead in ENOUGH[:40]:
            table = table_for(judge, ahead)
            for at in range(min(len(table), 4)):
                self.assert_no_table(judge, ahead, replaced(table, (at,), table[at][:2]))
                self.assert_no_table(judge, ahead, replaced(table, (at,), table[at] + (0,)))
                self.assert_no_table(judge, ahead, replaced(table, (at, 1), table[at][1] + (0,)))
                self.assert_no_table(judge, ahead, replaced(table, (at, 2), table[at][2] + (0,)))
                self.assert_no_table(judge, ahead, replaced(table, (at, 2), table[at][2][1:]))
                if ahead:
                    self.assert_no_table(judge, ahead, replaced(table, (at, 1), table[at][1][1:]))

    def test_other_values(self):
        for judge, ahead in ENOUGH[:6]:
            table = table_for(judge, ahead)
            others = (0, 1, (), ((),), list(table), (table,), [table], dict(enumerate(table)), str(table))
            for value in STRANGE + others:
                before = copy.deepcopy(value)
                self.assert_no_table(judge, ahead, value)
                self.assertEqual(value, before)

    def test_rows_exchanged_left_out_or_twice(self):
        for judge, ahead in ENOUGH:
            table = table_for(judge, ahead)
            for at in range(len(table)):
                self.assert_no_table(judge, ahead, table[:at] + table[at:at + 1] + table[at:])
                left_out = table[:at] + table[at + 1:]
                self.assertIs(shows_table(judge, ahead, left_out), plain_is_table(judge, ahead, left_out))
                if table[at][0] == 0:
                    self.assert_no_table(judge, ahead, left_out)
                if at:
                    self.assert_no_table(judge, ahead, table[:at - 1] + (table[at], table[at - 1]) + table[at + 1:])
            if len(table) > 1:
                self.assert_no_table(judge, ahead, table[::-1])

    def test_two_rows_of_one_pair(self):
        # Each of them alone is a table, and together they ascend.
        judge = (((0, 0),),)
        self.assertIs(shows_table(judge, 0, ((0, (), (0,)),)), True)
        self.assertIs(shows_table(judge, 0, ((0, (), (1,)),)), True)
        self.assert_no_table(judge, 0, ((0, (), (0,)), (0, (), (1,))))
        self.assert_no_table(judge, 0, ((0, (), (0,)), (0, (), (0,))))

    def test_one_more_or_less_ahead(self):
        for judge, ahead in ENOUGH:
            table = table_for(judge, ahead)
            for other in (ahead - 1, ahead + 1, 100):
                if other >= 0:
                    self.assert_no_table(judge, other, table)

    def test_rows_that_are_not_used_must_be_right_too(self):
        judge = (((0,),), ((None,),), ((1,),))
        self.assertIs(shows_table(judge, 0, ((0, (), (0,)),)), True)
        self.assert_no_table(judge, 0, ((0, (), (0,)), (1, (), (0,))))
        self.assert_no_table(judge, 0, ((0, (), (0,)), (2, (), (0,))))

    def test_a_row_of_the_start_is_missing(self):
        # No answer leads to the start again, so nothing else tells it.
        judge = (((1,), (1,)), ((1,), (1,)))
        table = table_for(judge, 1)
        self.assertIs(shows_table(judge, 1, table), True)
        for at in (0, 1):
            self.assert_no_table(judge, 1, table[:at] + table[at + 1:])
        self.assert_no_table(judge, 1, table[2:])

    def test_one_input_letter_far_ahead(self):
        zeros = (0,) * 100
        table = ((0, zeros, (0,)), (1, zeros, (0,)), (2, zeros, (0,)))
        self.assertIs(shows_table(WALK, 100, table), True)
        self.assert_no_table(WALK, 100, table[:2])
        self.assert_no_table(WALK, 100, replaced(table, (1, 1), zeros[1:]))

    def test_more_pairs_than_20000(self):
        # No look-ahead is too great for a table that is given.
        table = tuple([(0, word, (0, 0)) for word in words_of(2, 15)])
        judge = (((0,), (0,)),)
        self.assertIs(shows_table(judge, 15, table), True)
        self.assert_no_table(judge, 15, table[:-1])
        self.assertEqual(used_rows(judge, 15, table), table)
        for value in ((), table, None, (table[0],)):
            self.assert_no_table(uniform(8, 4, 4, 0), 100, value)

    def test_by_name(self):
        self.assertIs(shows_table(value=((0, (), (0, 1)),), ahead=0, judge=COPY), True)


class UsedRows(Case):
    def test_all_are_used(self):
        table = table_for(NEXT, 1)
        self.assertEqual(used_rows(NEXT, 1, table), table)

    def test_states_that_are_not_reached(self):
        judge = (((0,),), ((None,),), ((2,),))
        self.assertEqual(used_rows(judge, 1, table_for(judge, 1)), ((0, (0,), (0,)),))

    def test_a_row_that_other_answers_would_use(self):
        judge = (((0, 1),), ((0, 1),))
        unused = (1, (), (0,))
        self.assertEqual(used_rows(judge, 0, ((0, (), (0,)), unused)), ((0, (), (0,)),))
        self.assertEqual(used_rows(judge, 0, ((0, (), (1,)), unused)), ((0, (), (1,)), unused))

    def test_unused_rows_that_lead_to_each_other_and_to_used_ones(self):
        judge = (((2,),), ((3,),), ((0,),), ((1,),), ((2,),))
        table = table_for(judge, 2)
        self.assertEqual(len(table), 5)
        self.assertEqual(used_rows(judge, 2, table), (table[0], table[2]))

    def test_each_word_of_the_start_is_used(self):
        # No answer leads back to the start.
        judge = (((1,), (1,)), ((1,), (1,)))
        self.assertEqual(used_rows(judge, 2, table_for(judge, 2)), table_for(judge, 2))

    def test_a_long_way(self):
        line = tuple([((min(state + 1, 7),), (min(state + 1, 7),)) for state in range(8)])
        for ahead in range(4):
            self.assertEqual(used_rows(line, ahead, table_for(line, ahead)), table_for(line, ahead))

    def test_against_a_plain_search(self):
        source = random.Random(45)
        fewer = 0
        for judge, ahead in ENOUGH:
            for table in [table_for(judge, ahead)] + list(other_tables(judge, ahead, source, 2)):
                rows = used_rows(judge, ahead, table)
                self.assertEqual(rows, plain_used_rows(judge, table))
                self.assert_plain(rows)
                self.assertIs(shows_table(judge, ahead, rows), True)
                self.assertEqual(used_rows(judge, ahead, rows), rows)
                fewer += len(rows) < len(table)
        self.assertGreater(fewer, 20)

    def test_by_name(self):
        self.assertEqual(used_rows(table=((0, (), (0, 1)),), ahead=0, judge=COPY), ((0, (), (0, 1)),))
