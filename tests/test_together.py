"""Section 4: all guarantees, with the modules together."""

import random

from leastahead.blockgame import is_won, lost_positions, shows_won
from leastahead.certificates import certificate, defeat, shows_certificate
from leastahead.combining import (
    both, delayed, relettered, renumbered, side_by_side, with_entry, without_unreached,
)
from leastahead.converters import Converter, converted
from leastahead.desk import Desk
from leastahead.judges import input_count, output_count
from leastahead.least import ahead_bound, least_ahead
from leastahead.pairs import is_enough, safe_pairs, shows_table, table_for, used_rows
from leastahead.relations import (
    all_relations, block_length, count_words, first_word, long_relations, loop_of, relation_of,
)
from leastahead.runs import answer_at, answer_number, count_answers, run
from leastahead.sessions import Session
from leastahead.texts import read_judge, read_table, read_word, show_judge, show_table, show_word
from tests.cases import Case
from tests.samples import (
    COPY, DEEP, FAR, NEXT, NONE, SPARSE, WALK, begun_at, entry_paths, later_judge, part_at, race_judge, small_judges,
    sums_judge,
)

JUDGES = [NEXT, FAR, WALK, COPY, NONE, SPARSE, later_judge(2), later_judge(1, 3), sums_judge(3), race_judge(2)]
JUDGES += [begun_at(later_judge(1), 1), *DEEP[:3]] + small_judges(60, 121)
ENOUGH = [(judge, least_ahead(judge)) for judge in JUDGES if least_ahead(judge) is not None]
NEVER = [(judge, certificate(judge)) for judge in JUDGES if least_ahead(judge) is None]


def drawn_word(source, judge, length):
    return tuple([source.randrange(input_count(judge)) for at in range(length)])


def drawn_table(source, judge, ahead):
    """A table with any answers that lead from safe pairs to safe pairs."""
    safe = set(safe_pairs(judge, ahead))
    rows = []
    for state, pending in sorted(safe):
        answers = []
        for x in range(input_count(judge)):
            word = pending + (x,)
            entries = enumerate(judge[state][word[0]])
            answers.append(source.choice([y for y, entry in entries if (entry, word[1:]) in safe]))
        rows.append((state, pending, tuple(answers)))
    return tuple(rows)


class Guarantees(Case):
    def test_both_kinds_of_judges(self):
        self.assertGreater(min(len(ENOUGH), len(NEVER)), 20)

    def test_a_tables_make_converters_that_are_never_refused(self):
        source = random.Random(122)
        for judge, least in ENOUGH:
            for ahead in (least, least + 1):
                table = drawn_table(source, judge, ahead)
                for one in (table, used_rows(judge, ahead, table), table_for(judge, ahead)):
                    self.assertIs(shows_table(judge, ahead, one), True)
                    inputs = drawn_word(source, judge, 60)
                    outputs = converted(judge, ahead, one, inputs)
                    self.assertEqual(len(outputs), 60 - ahead)
                    states = run(judge, inputs[:len(outputs)], outputs)
                    converter = Converter(judge, ahead, one)
                    fed = [converter.feed(letter) for letter in inputs]
                    self.assertEqual(fed, [None] * ahead + list(outputs))
                    self.assertEqual(converter.here(), states[-1])

    def test_b_greater_look_aheads_are_enough(self):
        for judge, least in ENOUGH:
            self.assertTrue(all(is_enough(judge, least + more) for more in range(3)))
            self.assertFalse(any(is_enough(judge, ahead) for ahead in range(least)))

    def test_b_what_is_allowed_further(self):
        source = random.Random(123)
        for judge in [judge for judge in JUDGES if len(judge) < 5]:
            refused = [path for path in entry_paths(judge) if part_at(judge, path) is None]
            for path in source.sample(refused, min(3, len(refused))):
                other = least_ahead(with_entry(judge, *path, source.randrange(len(judge))))
                if least_ahead(judge) is not None:
                    self.assertIsNotNone(other)
                    self.assertLessEqual(other, least_ahead(judge))

    def test_c_the_bound(self):
        for judge, least in ENOUGH:
            self.assertEqual(ahead_bound(judge), 2 * block_length(judge) - 1)
            self.assertLessEqual(least, ahead_bound(judge))

    def test_d_certificates(self):
        for judge, least in ENOUGH:
            self.assertIsNone(certificate(judge))
        for judge, value in NEVER:
            self.assertIs(shows_certificate(judge, value), True)
            self.assertIsNone(ahead_bound(judge))

    def test_d_converters_of_better_judges_are_defeated(self):
        # What a table tells for a judge that allows more is refused at last by the judge itself.
        defeated = 0
        for judge, value in NEVER:
            for path in entry_paths(judge):
                better = with_entry(judge, *path, 0)
                least = least_ahead(better) if len(judge) < 5 else None
                if least is not None:
                    defeated += 1
                    table = table_for(better, least)
                    followed = (better, least, table)
                    inputs, outputs = defeat(judge, value, least, lambda word: converted(*followed, word)[-1])
                    self.assertEqual(outputs, converted(*followed, inputs))
                    run(better, inputs[:len(outputs)], outputs)
                    with self.assertRaises(ValueError):
                        run(judge, inputs[:len(outputs)], outputs)
                    run(judge, inputs[:len(outputs) - 1], outputs[:-1])
        self.assertGreater(defeated, 20)

    def test_e_side_by_side_and_delayed(self):
        for judge in JUDGES:
            for other, least in ((COPY, 0), (NONE, None), (NEXT, 1)):
                letters = max(input_count(judge) * input_count(other), output_count(judge) * output_count(other))
                if len(judge) * len(other) <= 6 and letters <= 4:
                    leasts = (least_ahead(judge), least)
                    expected = None if None in leasts else max(leasts)
                    self.assertEqual(least_ahead(side_by_side(judge, other)), expected)
            if len(judge) * input_count(judge) <= 6:
                least = least_ahead(judge)
                self.assertEqual(least_ahead(delayed(judge)), None if least is None else max(0, least - 1))

    def test_f_the_block_game(self):
        for judge in JUDGES:
            relations, lost = long_relations(judge), set(lost_positions(judge))
            won = tuple([(state, relation) for state in range(len(judge)) for relation in relations
                         if (state, relation) not in lost])
            some_is_enough = least_ahead(judge) is not None
            self.assertIs(all(is_won(judge, 0, relation) for relation in relations[:20]) or not some_is_enough, True)
            self.assertIs(not any(state == 0 for state, relation in lost), some_is_enough)
            self.assertIs(shows_won(judge, won), some_is_enough)

    def test_g_answers_and_words(self):
        source = random.Random(124)
        for judge in JUDGES:
            inputs = drawn_word(source, judge, 12)
            many = count_answers(judge, inputs)
            for number in {0, many // 2, many - 1} & set(range(many)):
                outputs = answer_at(judge, inputs, number)
                self.assertEqual(answer_number(judge, inputs, outputs), number)
                run(judge, inputs, outputs)
            relations = all_relations(judge)
            if len(relations) < 40:
                counts = {relation: count_words(judge, relation, 9) for relation in relations}
                self.assertEqual(sum(counts.values()), input_count(judge) ** 9)
                for relation in [relation for relation in relations if counts[relation]][:5]:
                    self.assertEqual(relation_of(judge, first_word(judge, relation, 9)), relation)
            u, v, w = loop_of(judge, long_relations(judge)[0])
            self.assertEqual(relation_of(judge, u + v * 3 + w), long_relations(judge)[0])

    def test_h_texts(self):
        source = random.Random(125)
        for judge in JUDGES:
            self.assertEqual(read_judge(show_judge(judge)), judge)
            word = drawn_word(source, judge, source.randrange(20))
            self.assertEqual(read_word(show_word(word)), word)
        for judge, least in ENOUGH:
            for ahead in (least, least + 1):
                table = drawn_table(source, judge, ahead)
                self.assertEqual(read_table(judge, ahead, show_table(table)), table)

    def test_h_sessions_and_desks(self):
        source = random.Random(126)
        # Of more states, the changed judges may have too many relations.
        for judge in [judge for judge in JUDGES if len(judge) < 4]:
            session, desk = Session(judge), Desk(show_judge(judge))
            for at in range(12):
                if session.changes() and source.randrange(3) == 0:
                    session.undo()
                    desk.say("undo")
                else:
                    state, x, y = source.choice(entry_paths(judge))
                    entry = source.choice([None] + list(range(len(judge))))
                    session.change(state, x, y, entry)
                    desk.say(f"refuse {state} {x} {y}" if entry is None else f"allow {state} {x} {y} {entry}")
                present = session.present()
                least = least_ahead(present)
                self.assertEqual(session.ahead_now(), least)
                self.assertEqual(session.table_now(), None if least is None else table_for(present, least))
                self.assertEqual(session.certificate_now(), certificate(present))
                self.assertEqual(desk.say("least"), "none" if least is None else str(least))
                self.assertEqual(desk.say("long"), str(len(long_relations(present))))
                self.assertEqual(desk.say("length"), str(block_length(present)))

    def test_the_same_judge_in_other_numbers(self):
        source = random.Random(127)
        for judge, least in ENOUGH + [(judge, None) for judge, value in NEVER]:
            order = (0,) + tuple(source.sample(range(1, len(judge)), len(judge) - 1))
            inputs = tuple(source.sample(range(input_count(judge)), input_count(judge)))
            outputs = tuple(source.sample(range(output_count(judge)), output_count(judge)))
            other = relettered(renumbered(judge, order), inputs, outputs)
            self.assertEqual(least_ahead(other), least)
            self.assertEqual(len(all_relations(other)), len(all_relations(judge)))
            self.assertEqual(least_ahead(without_unreached(other)), least)
            if len(judge) < 3:
                self.assertEqual(least_ahead(both(judge, judge)), least)
