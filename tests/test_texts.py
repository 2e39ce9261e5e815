"""Section 14: the texts of judges, tables and words; of section 4, guarantee (h) for texts."""

import copy
import itertools
import random
import re

from leastahead.certificates import certificate, defeat
from leastahead.errors import BadText
from leastahead.judges import is_judge
from leastahead.pairs import shows_table, table_for, used_rows
from leastahead.texts import read_judge, read_table, read_word, show_judge, show_table, show_word
from tests.cases import Case
from tests.samples import (
    COPY, FAR, FAR_CERTIFICATE, NEXT, NONE, SPARSE, STRANGE, WALK, later_judge, race_judge, random_judges, replaced,
    small_judges, sums_judge, uniform,
)

JUDGES = [NEXT, FAR, WALK, COPY, NONE, SPARSE, later_judge(2), race_judge(6, 2)] + random_judges(60, 91)
NO_STRINGS = [value for value in STRANGE if not isinstance(value, str)] + [0, 1, ("0",), ["0"], {"0": "0"}]

# Characters that are digits, but not those of the texts.
OTHER_DIGITS = ("\u0660", "\u0661", "\u00b2", "\u00b9", "\uff10", "\u0967")

STATE = re.compile(r"[-0-7](?: [-0-7]){0,3}(?: \| [-0-7](?: [-0-7]){0,3}){0,3}")
WORD = re.compile(r"-|[0-3](?: [0-3])*")
ROW = re.compile(r"([0-7]) : (-|[0-3](?: [0-3])*) : (-|[0-3](?: [0-3])*)")


def bad_line(text):
    """The line of the error that read_judge must raise for a string, None if the string is the text of a judge."""
    lines = text.split("\n")
    shape = None
    for at, line in enumerate(lines):
        if at > 7 or not STATE.fullmatch(line):
            return at
        lengths = [len(row.split(" ")) for row in line.split(" | ")]
        if shape is None and len(set(lengths)) == 1:
            shape = lengths
        if lengths != shape:
            return at
    beyond = any(digit in text for digit in "01234567"[len(lines):])
    return len(lines) if beyond else None


def plain_word(text):
    return () if text == "-" else tuple([int(letter) for letter in text.split(" ")])


def damaged(text, source, others=" -|:\n0123789+a", most=400):
    """The text with one character, word or line removed, repeated, exchanged with its neighbour, replaced or added."""
    texts = []
    for at in range(len(text) + 1):
        texts += [text[:at] + text[at + 1:], text[:at] + text[at:at + 1] + text[at:]]
        texts.append(text[:at] + text[at + 1:at + 2] + text[at:at + 1] + text[at + 2:])
        for other in others:
            texts += [text[:at] + other + text[at:], text[:at] + other + text[at + 1:]]
    for sign in (" ", "\n", " | ", " : "):
        parts = text.split(sign)
        for at in range(len(parts)):
            texts += [sign.join(parts[:at] + more + parts[at + 1:])
                      for more in ([], parts[at:at + 1] * 2, [""], ["-"], ["4"], parts[at:at + 1] + [""])]
            texts.append(sign.join(parts[:at] + parts[at + 1:at + 2] + parts[at:at + 1] + parts[at + 2:]))
        texts += [text + sign, sign + text]
    return source.sample(texts, min(most, len(texts)))


class TextCase(Case):
    def assert_bad(self, line, function, *call):
        with self.assertRaises(BadText) as caught:
            function(*call)
        self.assertEqual(caught.exception.line, line, call)
        self.assertIs(type(caught.exception.line), int)


class Judges(TextCase):
    def test_examples(self):
        self.assertEqual(show_judge(NEXT), "1 2 | 1 2\n1 2 | - -\n- - | 1 2")
        self.assertEqual(read_judge(show_judge(NEXT)), NEXT)
        self.assert_bad(1, read_judge, "0 1 | - -\n0 1")

    def test_by_hand(self):
        for judge, text in (
            (NONE, "-"), (COPY, "0 - | - 0"), (WALK, "1\n2\n2"), (SPARSE, "0 1\n0 -"), (uniform(1, 1, 1, 0), "0"),
            (FAR, "1 2 | 0 - | - 0\n1 1 | 0 0 | - -\n2 2 | - - | 0 0"), ((((None, None, 0, None),),), "- - 0 -"),
            (uniform(8, 4, 4, 7), "\n".join([" | ".join(["7 7 7 7"] * 4)] * 8)),
            (uniform(1, 4, 1, None), "- | - | - | -"),
        ):
            self.assertEqual(show_judge(judge), text)
            self.assertEqual(read_judge(text), judge)

    def test_written_and_read_back(self):
        for judge in JUDGES:
            text = show_judge(judge)
            self.assertIs(type(text), str)
            self.assertIsNone(bad_line(text))
            self.assertEqual(read_judge(text), judge)
            self.assertIs(is_judge(read_judge(text)), True)

    def test_damaged_texts(self):
        source = random.Random(92)
        met = {}
        for judge in JUDGES[:40]:
            for text in damaged(show_judge(judge), source):
                line = bad_line(text)
                met[line] = met.get(line, 0) + 1
                if line is None:
                    self.assertEqual(show_judge(read_judge(text)), text)
                else:
                    self.assert_bad(line, read_judge, text)
        self.assertEqual(sorted(met.keys() - {None}), list(range(9)))
        self.assertGreater(min(met.values()), 5, met)

    def test_twice_damaged_texts(self):
        source = random.Random(93)
        for judge in JUDGES[:30]:
            for once in damaged(show_judge(judge), source, most=20):
                for text in damaged(once, source, most=20):
                    line = bad_line(text)
                    if line is not None:
                        self.assert_bad(line, read_judge, text)

    def test_the_first_line_that_is_wrong(self):
        lines = ["0 1 | 2 -"] * 8
        for at in range(8):
            for wrong in ("", "0", "0 1", "0 1 | 2", "0 1 | 2 - | 0 0", "0 1 2 | 2 - 0", "0 1 | 2 8", "x", " 0 1 | 2"):
                for last in ("", "\n", "\nx", "\n" + wrong):
                    text = "\n".join(lines[:at] + [wrong] + lines[at + 1:]) + last
                    # The first line sets the numbers of rows and entries, so then the next one may be wrong.
                    expected = 1 if at == 0 and STATE.fullmatch(wrong) and bad_line(wrong) != 0 else at
                    self.assert_bad(expected, read_judge, text)

    def test_states_without_a_line(self):
        for lines in range(1, 8):
            for entry in range(lines, 8):
                text = "\n".join(["- 0"] * (lines - 1) + [f"- {entry}"])
                self.assert_bad(lines, read_judge, text)
                # A wrong line comes before, though it stands behind.
                self.assert_bad(lines, read_judge, text + "\nx")
                self.assert_bad(lines, read_judge, f"0 {entry}" + "\n0 0" * (lines - 1))
        text = "\n".join("77654321")
        self.assertEqual(read_judge(text), tuple([((entry,),) for entry in (7, 7, 6, 5, 4, 3, 2, 1)]))

    def test_nine_lines(self):
        self.assertEqual(len(read_judge("\n".join(["0"] * 8))), 8)
        for many in (9, 10, 1000):
            self.assert_bad(8, read_judge, "\n".join(["0"] * many))
        self.assert_bad(8, read_judge, "\n".join(["0"] * 8) + "\n")
        self.assert_bad(8, read_judge, "\n".join(["0"] * 8) + "\nx")

    def test_five_rows_and_five_entries(self):
        self.assertEqual(read_judge("0 | 0 | 0 | 0"), uniform(1, 4, 1, 0))
        self.assertEqual(read_judge("0 0 0 0"), uniform(1, 1, 4, 0))
        for text in ("0 | 0 | 0 | 0 | 0", "0 0 0 0 0", "0 | 0 0", "0 0 | 0", "0 0 0 0 0 | 0 0 0 0 0"):
            self.assert_bad(0, read_judge, text)
        self.assert_bad(1, read_judge, "0 | 0 | 0 | 0\n0 | 0 | 0 | 0 | 0")
        self.assert_bad(1, read_judge, "0 0 0 0\n0 0 0 0 0")

    def test_numbers(self):
        for text in ("00", "01", "8", "9", "10", "-1", "+0", "0.0", "0x0", "1_0", "--", "O", *OTHER_DIGITS):
            self.assert_bad(0, read_judge, text)
            self.assert_bad(1, read_judge, "0 0\n0 " + text)
            self.assert_bad(1, read_judge, "0 | 0\n" + text + " | 0")

    def test_spaces_and_lines(self):
        for text in (
            "", " ", "\n", "\n0", " 0", "0 ", "0  0", "0\t0", "\t0", "0 |0", "0| 0", "0|0", "0 | ", " | 0", "|",
            "0  | 0", "0 |  0", "0 || 0", "0 | | 0", "0\r", "0\r\n0", "0\x0b", "0\u2028", "0\u00a00", "0 : 0", "0,0",
        ):
            self.assert_bad(0, read_judge, text)
        for text in ("0\n", "0\n\n", "0\n\n0", "0\n ", "0\n0 ", "0\n 0", "0\n\t", "0\n0\r"):
            self.assert_bad(1, read_judge, text)

    def test_a_long_text(self):
        self.assert_bad(0, read_judge, "0 " * 15000)
        self.assert_bad(8, read_judge, "0\n" * 15000)
        self.assert_bad(0, read_judge, "\n" * 30000)

    def test_no_strings(self):
        for value in NO_STRINGS + [NEXT]:
            before = copy.deepcopy(value)
            self.assert_bad(0, read_judge, value)
            self.assertEqual(value, before)

    def test_by_name(self):
        self.assertEqual(show_judge(judge=COPY), "0 - | - 0")
        self.assertEqual(read_judge(text="0 - | - 0"), COPY)


class Words(TextCase):
    def test_examples(self):
        self.assertEqual(show_word((0, 2)), "0 2")
        self.assertEqual([show_word(()), show_word((3,)), show_word((0, 1, 2, 3))], ["-", "3", "0 1 2 3"])

    def test_written_and_read_back(self):
        for length in range(6):
            for word in itertools.product(range(4), repeat=length):
                self.assertEqual(read_word(show_word(word)), word)
                self.assertTrue(WORD.fullmatch(show_word(word)))

    def test_400_letters(self):
        for length in (399, 400):
            for word in ((0,) * length, tuple([at % 4 for at in range(length)])):
                self.assertEqual(read_word(show_word(word)), word)
        for length in (401, 402, 5000):
            self.assert_bad(0, read_word, " ".join(["0"] * length))
        self.assertEqual(show_word((1,) * 401), " ".join(["1"] * 401))

    def test_words_of_a_defeat(self):
        inputs, outputs = defeat(FAR, replaced(FAR_CERTIFICATE, (0, 0, 0), (0,) * 500), 3, lambda word: 0)
        self.assertEqual(show_word(inputs), " ".join(map(str, inputs)))
        inputs, outputs = defeat(FAR, certificate(FAR), 3, lambda word: 0)
        self.assertEqual([read_word(show_word(inputs)), read_word(show_word(outputs))], [inputs, outputs])

    def test_damaged_texts(self):
        source = random.Random(94)
        met = {True: 0, False: 0}
        for word in ((), (0,), (3,), (0, 1), (2, 0, 3, 1, 1)):
            for text in damaged(show_word(word), source):
                fits = WORD.fullmatch(text) is not None
                met[fits] += 1
                if fits:
                    self.assertEqual(read_word(text), plain_word(text))
                else:
                    self.assert_bad(0, read_word, text)
        self.assertGreater(min(met.values()), 20)

    def test_other_texts(self):
        for text in (
            "", " ", "4", "7", "00", "0 4", "- -", "- 0", "0 -", "--", "0  1", " 0", "0 ", "0\n", "0\n1", "0,1", "-1",
            "+1", "0 1\r", "(0, 1)", "0\t1", "a", "0 : 1", "1_0", "None", "0.0", "0x1", "01", *OTHER_DIGITS,
        ):
            self.assert_bad(0, read_word, text)

    def test_no_strings(self):
        for value in NO_STRINGS:
            before = copy.deepcopy(value)
            self.assert_bad(0, read_word, value)
            self.assertEqual(value, before)

    def test_by_name(self):
        self.assertEqual(show_word(word=(0, 2)), "0 2")
        self.assertEqual(read_word(text="0 2"), (0, 2))


def tables():
    """Judges, look-aheads and tables."""
    known = [(COPY, 0), (COPY, 1), (COPY, 2), (NEXT, 1), (NEXT, 2), (WALK, 0), (WALK, 3), (SPARSE, 0), (SPARSE, 2)]
    known += [(later_judge(2), 2), (later_judge(1, 3), 1), (sums_judge(3), 2), (race_judge(1), 1)]
    known.append((uniform(8, 4, 4, 7), 1))
    return [(judge, ahead, table_for(judge, ahead)) for judge, ahead in known]


class Tables(TextCase):
    def test_examples(self):
        self.assertEqual(show_table(table_for(NEXT, 1)), "0 : 0 : 0 1\n0 : 1 : 0 1\n1 : 0 : 0 1\n2 : 1 : 0 1")

    def test_by_hand(self):
        self.assertEqual(show_table(table_for(COPY, 0)), "0 : - : 0 1")
        self.assertEqual(show_table(table_for(WALK, 2)), "0 : 0 0 : 0\n1 : 0 0 : 0\n2 : 0 0 : 0")
        self.assertEqual(read_table(COPY, 0, "0 : - : 0 1"), ((0, (), (0, 1)),))
        self.assertEqual(read_table(COPY, 1, "0 : 0 : 0 0\n0 : 1 : 1 1"), ((0, (0,), (0, 0)), (0, (1,), (1, 1))))

    def test_written_and_read_back(self):
        for judge, ahead, table in tables():
            for one in (table, used_rows(judge, ahead, table)):
                text = show_table(one)
                self.assertTrue(all(ROW.fullmatch(line) for line in text.split("\n")))
                self.assertEqual(read_table(judge, ahead, text), one)

    def test_the_longest_tables(self):
        for judge, ahead in ((WALK, 100), (uniform(1, 2, 1, 0), 14), (later_judge(2), 8)):
            table = table_for(judge, ahead)
            self.assertEqual(read_table(judge, ahead, show_table(table)), table)

    def test_one_answer_exchanged(self):
        met = {True: 0, False: 0}
        judges = [judge for judge, ahead, table in tables()]
        judges += [judge for judge in small_judges(150, 95) if len(judge) > 1]
        for judge, ahead in itertools.product(judges, (0, 1)):
            if not self.has_table(judge, ahead):
                continue
            table = table_for(judge, ahead)
            for at, x, y in itertools.product(range(len(table))[:12], range(len(judge[0])), range(len(judge[0][0]))):
                other = replaced(table, (at, 2, x), y)
                fits = shows_table(judge, ahead, other)
                met[fits] += other != table
                if fits:
                    self.assertEqual(read_table(judge, ahead, show_table(other)), other)
                else:
                    self.assert_bad(0, read_table, judge, ahead, show_table(other))
        self.assertGreater(min(met.values()), 50, met)

    def has_table(self, judge, ahead):
        return len(judge) * len(judge[0]) ** ahead <= 50 and all(
            any(entry is not None for entry in row) for state in judge for row in state)

    def test_damaged_texts(self):
        source = random.Random(96)
        met = {True: 0, False: 0}
        for judge, ahead, table in tables():
            for text in damaged(show_table(table), source):
                rows = [ROW.fullmatch(line) for line in text.split("\n")]
                fits = False
                if all(rows):
                    value = tuple([(int(row[1]), plain_word(row[2]), plain_word(row[3])) for row in rows])
                    fits = shows_table(judge, ahead, value)
                met[fits] += 1
                if fits:
                    self.assertEqual(read_table(judge, ahead, text), value)
                else:
                    self.assert_bad(0, read_table, judge, ahead, text)
        self.assertGreater(min(met.values()), 20, met)

    def test_rows_in_other_sequences(self):
        lines = show_table(table_for(NEXT, 1)).split("\n")
        for other in itertools.permutations(lines):
            if list(other) != lines:
                self.assert_bad(0, read_table, NEXT, 1, "\n".join(other))
        self.assert_bad(0, read_table, NEXT, 1, "\n".join(lines + lines[-1:]))
        self.assert_bad(0, read_table, NEXT, 1, "\n".join(lines[1:]))

    def test_other_look_aheads_and_judges(self):
        text = show_table(table_for(NEXT, 1))
        for judge, ahead in ((NEXT, 0), (NEXT, 2), (COPY, 1), (FAR, 1), (WALK, 1), (NEXT, 100)):
            self.assert_bad(0, read_table, judge, ahead, text)

    def test_other_texts(self):
        for text in (
            "", " ", "\n", "-", "0 : - : 0 1\n", "\n0 : - : 0 1", "0 : - : 0 1 ", " 0 : - : 0 1", "0 : : 0 1",
            "0 :  : 0 1", "0 : - : 0  1", "0 : - : 0", "0 : - : 0 1 0", "0 : - : 0 2", "00 : - : 0 1", "0 : - : 00 1",
            "0 : - : 0 1 : 0", "0 : - : 0 1 : ", "0 : 0 1", "0:-:0 1", "0 : - :0 1", "- : - : 0 1", "0 : 0 : 0 1",
            "0 : - : \u0660 1", "\u0660 : - : 0 1", "+0 : - : 0 1", "0 : - : 0 +1", "0 | - | 0 1", "1 : - : 0 1",
            "8 : - : 0 1", "0 : - : 0 1\r", "0 : - : 0 1\n0 : - : 0 1", "0 0 : - : 0 1", "0 : - - : 0 1",
            " : - : 0 1", "0 : - : -",
        ):
            self.assert_bad(0, read_table, COPY, 0, text)

    def test_no_strings(self):
        for value in NO_STRINGS + [table_for(NEXT, 1)]:
            before = copy.deepcopy(value)
            self.assert_bad(0, read_table, NEXT, 1, value)
            self.assertEqual(value, before)

    def test_by_name(self):
        self.assertEqual(show_table(table=((0, (), (0, 1)),)), "0 : - : 0 1")
        self.assertEqual(read_table(text="0 : - : 0 1", ahead=0, judge=COPY), ((0, (), (0, 1)),))
