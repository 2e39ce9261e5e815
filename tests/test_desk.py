"""Section 16: the desk; of section 4, guarantee (h) for it."""

import copy
import itertools
import random
import re

from leastahead.converters import Converter
from leastahead.desk import Desk
from leastahead.errors import (
    AheadError, BadEntry, BadLine, BadText, BadWord, NoConverter, NoInput, NoOutput, NoState, NotEnough, NothingToUndo,
)
from leastahead.pairs import is_enough, table_for
from leastahead.relations import block_length, long_relations
from leastahead.runs import count_answers
from leastahead.sessions import Session
from leastahead.texts import read_judge, show_judge, show_word
from tests.cases import Case
from tests.samples import (
    COPY, FAR, MAPS, NEXT, NONE, SPARSE, STRANGE, TURNS, TURNS_OF_SEVEN, WALK, later_judge, maps_judge, race_judge,
    random_judges, replaced, small_judges, sums_judge, uniform,
)

TEXT = "1 2 | 1 2\n1 2 | - -\n- - | 1 2"
NO_STRINGS = [value for value in STRANGE if not isinstance(value, str)] + [0, 1]
ALONE = ("undo", "changes", "judge", "least", "length", "long", "pending", "state")

NUMBER = "(0|[1-9][0-9]{0,2})"
FORMS = [re.compile(form) for form in (
    f"(allow) {NUMBER} {NUMBER} {NUMBER} {NUMBER}", f"(refuse) {NUMBER} {NUMBER} {NUMBER}", f"(feed) {NUMBER}",
    "(enough|begin) ([0-9]|[1-9][0-9]|100)", "(count) ((?:-|[0-3](?: [0-3]){0,399}))", f"({'|'.join(ALONE)})",
)]


def parts_of(line):
    """The name of a line and the texts of its values, None if it has no right form."""
    found = [form.fullmatch(line) for form in FORMS]
    return next((match.groups() for match in found if match), None)


class DeskCase(Case):
    def desk(self, judge):
        return Desk(show_judge(judge))

    def assert_says(self, desk, *lines):
        """Check lines with their answers: line, answer, line, answer."""
        for line, expected in zip(lines[::2], lines[1::2]):
            answer = desk.say(line)
            self.assertIs(type(answer), str)
            self.assertEqual(answer, expected, line)

    def assert_dialog(self, desk, text):
        """Check lines with their answers, each pair in a line of the text, with an arrow between."""
        for row in text.strip().split("\n"):
            line, arrow, expected = row.strip().partition(" => ")
            self.assert_says(desk, line, expected)

    def assert_error(self, error_class, attributes, desk, line):
        with self.assertRaises(AheadError) as caught:
            desk.say(line)
        self.assertIs(type(caught.exception), error_class, line)
        self.assertEqual(vars(caught.exception), attributes)

    def assert_bad_line(self, desk, line):
        self.assert_raises(BadLine, "line", line, desk.say, line)


class Beginning(DeskCase):
    def test_the_example(self):
        desk = Desk(TEXT)
        self.assert_dialog(desk, """
            least => 1
            enough 0 => no
            count 0 1 => 2
            begin 1 => done
            feed 1 => -
            feed 0 => 0
            pending => 0
            state => 1
        """)

    def test_the_text(self):
        for judge in [NEXT, FAR, WALK, COPY, NONE] + random_judges(20, 111):
            self.assert_says(self.desk(judge), "judge", show_judge(judge).replace("\n", " ; "), "changes", "0")

    def test_bad_texts(self):
        for text, line in (
            ("", 0), ("0 1 | - -\n0 1", 1), ("0\n", 1), ("1", 1), ("0\n2\n0\n4", 4), ("0\n" * 8 + "0", 8),
            ("0 ; 0", 0), ("x", 0), ("00", 0), ("0\n0\n8", 2),
        ):
            with self.assertRaises(BadText) as caught:
                Desk(text)
            self.assertEqual(caught.exception.line, line)

    def test_texts_that_are_no_strings(self):
        for value in NO_STRINGS + [NEXT, [TEXT], (TEXT,)]:
            before = copy.deepcopy(value)
            with self.assertRaises(BadText) as caught:
                Desk(value)
            self.assertEqual(caught.exception.line, 0)
            self.assertEqual(value, before)

    def test_by_name(self):
        self.assertEqual(Desk(text=TEXT).say(line="least"), "1")


class Judge(DeskCase):
    def test_changes(self):
        desk = Desk(TEXT)
        self.assert_dialog(desk, """
            changes => 0
            allow 0 0 0 0 => done
            changes => 1
            judge => 0 2 | 1 2 ; 1 2 | - - ; - - | 1 2
            refuse 1 0 1 => done
            changes => 2
            judge => 0 2 | 1 2 ; 1 - | - - ; - - | 1 2
            allow 2 0 1 2 => done
            judge => 0 2 | 1 2 ; 1 - | - - ; - 2 | 1 2
            undo => done
            undo => done
            changes => 1
            judge => 0 2 | 1 2 ; 1 2 | - - ; - - | 1 2
            undo => done
            changes => 0
            judge => 1 2 | 1 2 ; 1 2 | - - ; - - | 1 2
        """)

    def test_a_change_into_what_the_entry_is(self):
        desk = Desk("0 -")
        self.assert_dialog(desk, """
            allow 0 0 0 0 => done
            refuse 0 0 1 => done
            changes => 2
            judge => 0 -
            undo => done
            changes => 1
            undo => done
            changes => 0
        """)

    def test_nothing_to_undo(self):
        desk = Desk(TEXT)
        self.assert_error(NothingToUndo, {}, desk, "undo")
        self.assert_says(desk, "refuse 0 0 0", "done", "undo", "done")
        self.assert_error(NothingToUndo, {}, desk, "undo")
        self.assert_says(desk, "changes", "0", "judge", TEXT.replace("\n", " ; "))

    def test_many_changes(self):
        desk = Desk("0")
        for many in range(130):
            self.assert_says(desk, "changes", str(many), "refuse 0 0 0" if many % 2 else "allow 0 0 0 0", "done")
        for many in reversed(range(130)):
            self.assert_says(desk, "undo", "done", "changes", str(many))
        self.assert_says(desk, "judge", "0")

    def test_states_letters_and_entries_that_are_not_there(self):
        desk = Desk(TEXT)
        for number in (3, 4, 7, 8, 9, 10, 99, 100, 101, 999):
            for line, error, name in (
                (f"allow {number} 0 0 0", NoState, "state"), (f"allow {number} 9 9 9", NoState, "state"),
                (f"allow 0 {number} 0 0", NoInput, "x"), (f"allow 0 {number} 9 9", NoInput, "x"),
                (f"allow 0 0 {number} 0", NoOutput, "y"), (f"allow 2 1 {number} 9", NoOutput, "y"),
                (f"allow 0 0 0 {number}", BadEntry, "entry"), (f"allow 2 1 1 {number}", BadEntry, "entry"),
                (f"refuse {number} 0 0", NoState, "state"), (f"refuse {number} 9 9", NoState, "state"),
                (f"refuse 0 {number} 0", NoInput, "x"), (f"refuse 0 {number} 9", NoInput, "x"),
                (f"refuse 0 0 {number}", NoOutput, "y"),
            ):
                self.assert_error(error, {name: number}, desk, line)
        self.assert_error(NoInput, {"x": 2}, desk, "allow 0 2 0 0")
        self.assert_error(NoOutput, {"y": 2}, desk, "refuse 0 0 2")
        self.assert_says(desk, "changes", "0", "judge", TEXT.replace("\n", " ; "))

    def test_least(self):
        for judge, least in ((NEXT, "1"), (FAR, "none"), (COPY, "0"), (NONE, "none"), (later_judge(2), "2"),
                             (sums_judge(4), "3"), (race_judge(6), "6")):
            self.assert_says(self.desk(judge), "least", least)
        self.assertEqual([Desk("0").say("least"), Desk("-").say("least")], ["0", "none"])

    def test_enough(self):
        for judge, least in ((NEXT, 1), (FAR, 9), (COPY, 0), (later_judge(2), 2), (race_judge(3), 3)):
            desk = self.desk(judge)
            for ahead in range(5):
                self.assert_says(desk, f"enough {ahead}", "yes" if ahead >= least else "no")
        self.assert_dialog(self.desk(WALK), """
            enough 100 => yes
            enough 99 => yes
            enough 10 => yes
        """)
        self.assert_says(self.desk(NONE), "enough 100", "no")

    def test_length_and_long(self):
        for judge in [NEXT, FAR, WALK, COPY, NONE, SPARSE, race_judge(2), TURNS] + small_judges(20, 112):
            desk = self.desk(judge)
            self.assert_says(desk, "length", str(block_length(judge)), "long", str(len(long_relations(judge))))
        self.assert_says(self.desk(WALK), "length", "2", "long", "1")
        self.assert_says(self.desk(TURNS), "length", "1", "long", "720")

    def test_count(self):
        self.assert_dialog(Desk(TEXT), """
            count - => 1
            count 0 => 2
            count 0 1 => 2
            count 1 1 1 1 => 2
        """)
        desk = self.desk(uniform(1, 4, 4, 0))
        self.assert_says(desk, "count 3", "4", "count 0 1 2 3", "256", "count " + " ".join("0123" * 100), str(4 ** 400))
        self.assert_dialog(Desk('-'), """
            count - => 1
            count 0 => 0
            count 0 0 0 => 0
        """)

    def test_count_as_the_function(self):
        source = random.Random(113)
        for judge in small_judges(20, 114):
            desk = self.desk(judge)
            for length in (1, 2, 5, 40, 399, 400):
                word = tuple([source.randrange(len(judge[0])) for at in range(length)])
                self.assert_says(desk, "count " + " ".join(map(str, word)), str(count_answers(judge, word)))

    def test_count_of_words_with_other_letters(self):
        desk = Desk(TEXT)
        for word in ((2,), (3,), (0, 2), (0, 1, 3, 0), (2,) * 400, (0,) * 399 + (3,)):
            self.assert_error(BadWord, {"word": word}, desk, "count " + " ".join(map(str, word)))
        self.assert_error(BadWord, {"word": (1,)}, Desk("0"), "count 1")
        self.assert_says(desk, "count 1", "2")

    def test_count_of_more_than_400_letters(self):
        desk = Desk("0 0")
        self.assert_says(desk, "count " + " ".join(["0"] * 400), str(2 ** 400))
        for many in (401, 402, 1000):
            self.assert_bad_line(desk, "count " + " ".join(["0"] * many))
            self.assert_bad_line(desk, "count " + " ".join(["3"] * many))

    def test_too_many(self):
        for judge in (TURNS_OF_SEVEN, MAPS):
            desk = self.desk(judge)
            for line in ("least", "length", "long"):
                self.assert_too_many(2000, desk.say, line)
        desk = self.desk(race_judge(6, 2))
        for line in ("least", "enough 6", "enough 100", "begin 6", "begin 100"):
            self.assert_too_many(20000, desk.say, line)
        self.assert_says(desk, "enough 5", "no", "changes", "0")

    def test_what_is_told_goes_back_with_the_judge(self):
        desk = Desk("0 - | - 0")
        self.assert_dialog(desk, """
            least => 0
            refuse 0 1 1 => done
            least => none
            enough 3 => no
            count 0 1 => 0
            allow 0 1 0 0 => done
            least => 0
            count 0 1 => 1
            undo => done
            least => none
            undo => done
            least => 0
            enough 0 => yes
        """)


class Converting(DeskCase):
    def test_before_any_begin(self):
        desk = Desk(TEXT)
        for line in ("feed 0", "feed 1", "feed 2", "feed 999", "pending", "state"):
            self.assert_error(NoConverter, {}, desk, line)
        # What is refused is no begin.
        self.assert_error(NotEnough, {"ahead": 0}, desk, "begin 0")
        self.assert_too_many(20000, desk.say, "begin 100")
        for line in ("feed 0", "pending", "state"):
            self.assert_error(NoConverter, {}, desk, line)

    def test_a_converter_that_has_read_nothing(self):
        self.assert_dialog(Desk(TEXT), """
            begin 1 => done
            pending => -
            state => 0
            feed 0 => -
            pending => 0
        """)
        self.assert_dialog(Desk('0 - | - 0'), """
            begin 0 => done
            pending => -
            state => 0
            feed 1 => 1
            pending => -
        """)

    def test_begin_again(self):
        desk = Desk(TEXT)
        self.assert_dialog(desk, """
            begin 1 => done
            feed 1 => -
            feed 1 => 1
            state => 2
            begin 2 => done
            state => 0
            pending => -
            feed 1 => -
            feed 0 => -
            pending => 1 0
            feed 0 => 0
            pending => 0 0
        """)

    def test_a_begin_that_is_refused_leaves_the_elder_converter(self):
        desk = Desk(TEXT)
        self.assert_dialog(desk, """
            begin 1 => done
            feed 1 => -
            feed 1 => 1
        """)
        self.assert_error(NotEnough, {"ahead": 0}, desk, "begin 0")
        self.assert_too_many(20000, desk.say, "begin 50")
        self.assert_bad_line(desk, "begin 101")
        self.assert_dialog(desk, """
            state => 2
            pending => 1
            feed 0 => 0
            state => 1
        """)

    def test_letters_that_are_not_there(self):
        desk = Desk(TEXT)
        self.assert_says(desk, "begin 1", "done", "feed 1", "-")
        for letter in (2, 3, 9, 10, 100, 999):
            self.assert_error(NoInput, {"x": letter}, desk, f"feed {letter}")
        self.assert_dialog(desk, """
            pending => 1
            state => 0
            feed 0 => 0
        """)

    def test_the_judge_is_changed_later(self):
        desk = Desk(TEXT)
        self.assert_dialog(desk, """
            begin 1 => done
            feed 1 => -
            refuse 0 1 0 => done
            refuse 0 1 1 => done
            least => none
            feed 0 => 0
            state => 1
            pending => 0
            feed 1 => 1
            state => 2
        """)
        self.assert_error(NotEnough, {"ahead": 1}, desk, "begin 1")
        self.assert_dialog(desk, """
            feed 1 => 1
            undo => done
            undo => done
            feed 0 => 0
            state => 1
            begin 1 => done
            state => 0
        """)

    def test_the_table_of_the_present_judge(self):
        desk = Desk("0 - | - 0")
        self.assert_dialog(desk, """
            allow 0 1 0 0 => done
            begin 0 => done
            feed 1 => 0
            undo => done
            feed 1 => 0
            begin 0 => done
            feed 1 => 1
        """)

    def test_look_ahead_100(self):
        desk = self.desk(WALK)
        self.assert_says(desk, "begin 100", "done", *["feed 0", "-"] * 100, "pending", " ".join(["0"] * 100))
        self.assert_says(desk, "state", "0", "feed 0", "0", "state", "1", "feed 0", "0", "feed 0", "0", "state", "2")

    def test_against_a_converter(self):
        source = random.Random(115)
        known = ((NEXT, 1), (NEXT, 3), (later_judge(2), 2), (race_judge(2), 2), (sums_judge(3), 4), (COPY, 0))
        for judge, ahead in known:
            desk, converter = self.desk(judge), Converter(judge, ahead, table_for(judge, ahead))
            self.assert_says(desk, f"begin {ahead}", "done")
            for at in range(100):
                letter = source.randrange(len(judge[0]))
                answer = converter.feed(letter)
                self.assert_says(desk, f"feed {letter}", "-" if answer is None else str(answer))
                self.assert_says(desk, "state", str(converter.here()), "pending", show_word(converter.pending()))


LINES = ALONE + (
    "allow 0 1 0 2", "refuse 2 1 0", "enough 1", "enough 100", "begin 1", "feed 1", "count 0 1", "count -", "count 3",
)


class Lines(DeskCase):
    def assert_as_form(self, line):
        """Check that a line is bad exactly if it has no right form, and then changes nothing."""
        desk = Desk(TEXT)
        if parts_of(line) is None:
            self.assert_bad_line(desk, line)
            self.assert_says(desk, "changes", "0", "judge", TEXT.replace("\n", " ; "))
            self.assert_error(NoConverter, {}, desk, "state")
            return False
        try:
            self.assertIs(type(desk.say(line)), str)
        except AheadError as error:
            self.assertNotIsInstance(error, BadLine, line)
        return True

    def test_all_forms(self):
        for line in LINES:
            self.assertTrue(self.assert_as_form(line))

    def test_each_word_removed_repeated_replaced_and_added(self):
        others = (
            "", "0", "1", "00", "01", "-", "-1", "+1", "1000", "x", "4", "101", "100", "allow", "undo", "count", "1.0",
            "\u0661", "0\n", "1 1", "None", "FEED", "\u00b2", " ", "1_0", "0x1", "007", "999",
        )
        met = {True: 0, False: 0}
        for line in LINES:
            words = line.split(" ")
            for at in range(len(words)):
                met[self.assert_as_form(" ".join(words[:at] + words[at + 1:]))] += 1
                met[self.assert_as_form(" ".join(words[:at] + words[at:at + 1] * 2 + words[at + 1:]))] += 1
                for other in others:
                    met[self.assert_as_form(" ".join(words[:at] + [other] + words[at + 1:]))] += 1
            for at, other in itertools.product(range(len(words) + 1), others):
                met[self.assert_as_form(" ".join(words[:at] + [other] + words[at:]))] += 1
        self.assertGreater(min(met.values()), 50, met)

    def test_each_character_removed_repeated_and_replaced(self):
        for line in LINES:
            for at in range(len(line)):
                self.assert_as_form(line[:at] + line[at + 1:])
                self.assert_as_form(line[:at] + line[at] * 2 + line[at + 1:])
                for other in " -09a\n\t":
                    self.assert_as_form(line[:at] + other + line[at + 1:])
            for more in (" ", "\n", "\t", "\r", ";", " #", "\x00", "\u2028"):
                self.assert_bad_line(Desk(TEXT), line + more)
                self.assert_bad_line(Desk(TEXT), more + line)
            self.assert_bad_line(Desk(TEXT), line.upper() if line.upper() != line else "X")

    def test_numbers(self):
        desk = Desk(TEXT)
        for line in ("feed {}", "allow {} 0 0 0", "allow 0 {} 0 0", "allow 0 0 {} 0", "allow 0 0 0 {}", "refuse {} 0 0",
                     "refuse 0 {} 0", "refuse 0 0 {}", "enough {}", "begin {}"):
            for wrong in (
                "1000", "0000", "1001", "99999", "00", "01", "000", "001", "010", "+1", "-1", "-0", "1.", "1e1", "",
                "\u0663", "\u00b3", "\uff11", "1\u0660", "a", "1a", "0b1", "1_1", " 1", "1 ", "9" * 400,
            ):
                self.assert_bad_line(desk, line.format(wrong))
            for right in ("0", "1", "9", "10", "99", "100"):
                self.assertIsNotNone(parts_of(line.format(right)))
                self.assert_as_form(line.format(right))

    def test_look_aheads_up_to_100(self):
        desk = self.desk(WALK)
        self.assert_says(desk, "enough 100", "yes", "begin 100", "done")
        for number in (101, 102, 110, 200, 999):
            self.assert_bad_line(desk, f"enough {number}")
            self.assert_bad_line(desk, f"begin {number}")
            # Other numbers may be greater.
            self.assert_error(NoInput, {"x": number}, desk, f"feed {number}")
            self.assert_error(NoState, {"state": number}, desk, f"refuse {number} 0 0")

    def test_bad_lines_come_first(self):
        desk = self.desk(TURNS_OF_SEVEN)
        for line in (
            "least 0", "length ", "long x", "enough 101", "begin 101", "feed x", "pending 0", "state -", "undo 1",
            "count 4", "count", "count ", "count 0 4", "allow 9 9 9", "refuse 9 9 9 9",
        ):
            self.assert_bad_line(desk, line)

    def test_count_without_a_right_word(self):
        desk = Desk(TEXT)
        for word in ("", " ", "4", "0 4", "- -", "0 -", "0  1", " 0", "0 ", "00", "01", "x", "(0,)", "0,1", "\u0660"):
            self.assert_bad_line(desk, "count " + word)
        self.assert_bad_line(desk, "count")

    def test_values_that_are_no_strings(self):
        desk = Desk(TEXT)
        for value in NO_STRINGS + [["undo"], ("undo",), {"undo": 0}]:
            before = copy.deepcopy(value)
            self.assert_bad_line(desk, value)
            self.assertEqual(value, before)

    def test_other_strings(self):
        desk = Desk(TEXT)
        for line in (
            "", " ", "\n", "x", "Undo", "UNDO", "undo undo", "undo;undo", "table", "certificate", "quit", "help",
            "copy", "allow", "refuse", "enough", "begin", "feed", "0", "-", "say least", "judge " + TEXT, "*" * 999,
        ):
            self.assert_bad_line(desk, line)


class Model:
    """What a desk must answer, by a session and a converter."""

    def __init__(self, judge):
        self.session = Session(judge)
        self.converter = None

    def answer(self, name, values):
        session, converter = self.session, self.converter
        if name in ("feed", "pending", "state") and converter is None:
            raise NoConverter()
        if name in ("allow", "refuse"):
            session.change(*(values + [None])[:4])
            return "done"
        if name == "undo":
            session.undo()
            return "done"
        if name == "begin":
            table = table_for(session.present(), *values)
            self.converter = Converter(session.present(), *values, table)
            return "done"
        told = {
            "changes": lambda: session.changes(), "least": lambda: session.ahead_now(),
            "judge": lambda: " ; ".join(show_judge(session.present()).split("\n")),
            "enough": lambda: "yes" if is_enough(session.present(), *values) else "no",
            "length": lambda: block_length(session.present()), "long": lambda: len(long_relations(session.present())),
            "count": lambda: self.count(tuple(values)), "feed": lambda: converter.feed(*values),
            "state": lambda: converter.here(), "pending": lambda: show_word(converter.pending()),
        }[name]()
        return {"least": "none", "feed": "-"}[name] if told is None else str(told)

    def count(self, word):
        if max(word) >= len(self.session.present()[0]):
            raise BadWord(word)
        return count_answers(self.session.present(), word)


class Together(DeskCase):
    def drawn_line(self, source, judge):
        states, letters = list(range(len(judge))) * 4 + [len(judge)], list(range(len(judge[0]))) * 6 + [len(judge[0])]
        outputs = list(range(len(judge[0][0]))) * 6 + [4]
        return source.choice((
            ["allow", source.choice(states), source.choice(letters), source.choice(outputs), source.choice(states)],
            ["refuse", source.choice(states), source.choice(letters), source.choice(outputs)],
            ["undo"], ["undo"], ["changes"], ["judge"], ["least"], ["length"], ["long"], ["pending"], ["state"],
            ["enough", source.randrange(4)], ["begin", source.randrange(4)],
            ["feed", source.choice(letters)], ["feed", source.choice(letters)], ["feed", source.choice(letters)],
            ["count", *source.choices(letters, k=source.randint(1, 6))],
        ))

    def test_long_drawn_sequences(self):
        source = random.Random(116)
        met = {}
        judges = [NEXT, COPY, WALK, SPARSE, FAR, uniform(2, 2, 2, 1), maps_judge((1, 0), (0, 1))]
        for judge in judges + small_judges(10, 117):
            desk, model = self.desk(judge), Model(judge)
            for at in range(250):
                name, *values = self.drawn_line(source, judge)
                line = " ".join(map(str, [name] + values))
                try:
                    expected = model.answer(name, values)
                except AheadError as error:
                    self.assert_error(type(error), vars(error), desk, line)
                    met[type(error).__name__] = met.get(type(error).__name__, 0) + 1
                else:
                    self.assert_says(desk, line, expected)
                    met[name] = met.get(name, 0) + 1
        self.assertGreater(min(met.values()), 10, met)
        self.assertEqual(len(met), 14 + 8, met)

    def test_the_judge_can_be_read_again(self):
        source = random.Random(118)
        desk, session = Desk(TEXT), Session(NEXT)
        for at in range(60):
            q, x, y, t = source.randrange(3), source.randrange(2), source.randrange(2), source.randrange(3)
            desk.say(f"allow {q} {x} {y} {t}" if at % 2 else f"refuse {q} {x} {y}")
            session.change(q, x, y, t if at % 2 else None)
            text = desk.say("judge").replace(" ; ", "\n")
            self.assertEqual(read_judge(text), session.present())
            self.assertEqual(Desk(text).say("least"), desk.say("least"))

    def test_two_desks_are_apart(self):
        one, other = Desk(TEXT), Desk(TEXT)
        self.assert_dialog(one, """
            allow 1 1 0 0 => done
            begin 1 => done
            feed 0 => -
        """)
        self.assert_says(other, "changes", "0", "judge", TEXT.replace("\n", " ; "))
        self.assert_error(NoConverter, {}, other, "pending")
        self.assertEqual(replaced(NEXT, (1, 1, 0), 0), read_judge(one.say("judge").replace(" ; ", "\n")))
