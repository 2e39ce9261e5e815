"""Section 15: sessions; of section 4, guarantee (h) for them."""

import copy
import itertools
import random

from leastahead.certificates import certificate, shows_certificate
from leastahead.combining import with_entry
from leastahead.errors import BadEntry, BadJudge, NoInput, NoOutput, NoState, NothingToUndo
from leastahead.judges import is_judge
from leastahead.least import least_ahead
from leastahead.pairs import table_for
from leastahead.sessions import Session
from tests.cases import Case
from tests.samples import (
    COPY, FAR, GREAT, MAPS, NEXT, NONE, SPARSE, STRANGE, TURNS, TURNS_OF_SEVEN, WALK, entry_paths, part_at, race_judge,
    replaced, small_judges, uniform,
)

JUDGES = [NEXT, FAR, WALK, COPY, NONE, SPARSE] + small_judges(14, 101)


def drawn_change(judge, source):
    """A state, two letters and an entry of the judge, drawn."""
    path = source.choice(entry_paths(judge))
    return path + (source.choice([None] + list(range(len(judge)))),)


class SessionCase(Case):
    def assert_now(self, session, judge, changes):
        """Check all that a session tells, for what judge it must be and how many changes can be taken back."""
        self.assertEqual(session.present(), judge)
        self.assertEqual(session.changes(), changes)
        self.assertIs(type(session.changes()), int)
        least = least_ahead(judge)
        self.assertEqual(session.ahead_now(), least)
        if least is None:
            self.assertIsNone(session.table_now())
            self.assertIs(shows_certificate(judge, session.certificate_now()), True)
            self.assertEqual(session.certificate_now(), certificate(judge))
        else:
            self.assertEqual(session.table_now(), table_for(judge, least))
            self.assertIsNone(session.certificate_now())

    def assert_nothing_to_undo(self, session):
        with self.assertRaises(NothingToUndo):
            session.undo()


class Changes(SessionCase):
    def test_the_example(self):
        session = Session(COPY)
        self.assertIsNone(session.change(0, 1, 1, None))
        self.assertIsNone(session.ahead_now())
        session.change(0, 1, 0, 0)
        self.assertEqual([session.ahead_now(), session.present()], [0, (((0, None), (0, None)),)])
        self.assertEqual([session.undo(), session.changes(), session.ahead_now()], [None, 1, None])

    def test_at_the_beginning(self):
        for judge in JUDGES:
            session = Session(judge)
            self.assert_now(session, judge, 0)
            self.assert_nothing_to_undo(session)
            self.assert_now(session, judge, 0)

    def test_every_entry(self):
        for judge in JUDGES[:10]:
            for path in entry_paths(judge):
                for entry in [None] + list(range(len(judge))):
                    session = Session(judge)
                    self.assertIsNone(session.change(*path, entry))
                    self.assert_now(session, replaced(judge, path, entry), 1)
                    self.assertIsNone(session.undo())
                    self.assert_now(session, judge, 0)

    def test_a_change_into_what_the_entry_is(self):
        for judge in JUDGES:
            session = Session(judge)
            for many, path in enumerate(entry_paths(judge)):
                self.assertIsNone(session.change(*path, part_at(judge, path)))
                self.assertEqual([session.present(), session.changes()], [judge, many + 1])
            for many in reversed(range(len(entry_paths(judge)))):
                session.undo()
                self.assertEqual([session.present(), session.changes()], [judge, many])
            self.assert_nothing_to_undo(session)

    def test_down_to_the_beginning_and_one_further(self):
        source = random.Random(102)
        for judge in JUDGES:
            session, judges = Session(judge), [judge]
            for at in range(6):
                change = drawn_change(judge, source)
                session.change(*change)
                judges.append(with_entry(judges[-1], *change))
                self.assert_now(session, judges[-1], len(judges) - 1)
            while len(judges) > 1:
                judges.pop()
                session.undo()
                self.assert_now(session, judges[-1], len(judges) - 1)
            self.assert_nothing_to_undo(session)
            self.assert_nothing_to_undo(session)
            self.assert_now(session, judge, 0)

    def test_changes_and_undos_in_any_sequence(self):
        source = random.Random(103)
        for judge in JUDGES:
            session, judges = Session(judge), [judge]
            for at in range(30):
                if source.randrange(2) and len(judges) > 1:
                    judges.pop()
                    session.undo()
                elif source.randrange(5) == 0:
                    with self.assertRaises(NoState):
                        session.change(len(judge), 0, 0, 0)
                else:
                    change = drawn_change(judge, source)
                    session.change(*change)
                    judges.append(with_entry(judges[-1], *change))
                self.assertEqual([session.present(), session.changes()], [judges[-1], len(judges) - 1])
            self.assert_now(session, judges[-1], len(judges) - 1)

    def test_120_changes_that_are_all_taken_back(self):
        source = random.Random(104)
        for judge in (NEXT, FAR, uniform(8, 4, 4, None)):
            session, judges = Session(judge), [judge]
            for at in range(120):
                change = drawn_change(judge, source)
                session.change(*change)
                judges.append(with_entry(judges[-1], *change))
            self.assertEqual([session.present(), session.changes()], [judges[-1], 120])
            for many in reversed(range(120)):
                session.undo()
                self.assertEqual([session.present(), session.changes()], [judges[many], many])
            self.assert_nothing_to_undo(session)

    def test_what_is_told_goes_both_ways(self):
        session = Session(NEXT)
        told = []
        for change in ((0, 0, 0, 0), (1, 1, 1, 1), (2, 0, 0, 2), (1, 1, 0, None), (0, 1, 1, None), (2, 0, 1, 0)):
            told.append((session.present(), session.ahead_now(), session.table_now(), session.certificate_now()))
            session.change(*change)
        for expected in reversed(told):
            session.undo()
            self.assertEqual(
                (session.present(), session.ahead_now(), session.table_now(), session.certificate_now()), expected)

    def test_by_name(self):
        session = Session(judge=WALK)
        session.change(entry=2, y=0, x=0, state=0)
        self.assertEqual(session.present(), replaced(WALK, (0, 0, 0), 2))


class Errors(SessionCase):
    def test_no_judges(self):
        for value in STRANGE + (0, 1, (), ((),), (((),),), (((1,),),), [((0,),)], ([(0,)],), (([0],),), (((False,),),),
                                uniform(9, 1, 1, 0), uniform(1, 5, 1, 0), uniform(1, 1, 5, 0), "0"):
            before = copy.deepcopy(value)
            self.assertIs(is_judge(value), False)
            self.assert_raises(BadJudge, "judge", value, Session, value)
            self.assertEqual(value, before)

    def test_each_part_of_a_judge(self):
        for path in [()] + [path[:many] for path in entry_paths(NEXT) for many in (1, 2, 3)]:
            for part in ([], {}, "0", True, -1, 3, GREAT, (), ((),)):
                value = replaced(NEXT, path, part)
                self.assert_raises(BadJudge, "judge", value, Session, value)

    def test_values_of_any_kind(self):
        session = Session(NEXT)
        session.change(0, 0, 0, 0)
        judge = session.present()
        for value in STRANGE + ((0,), [0], "0", 3, 4, GREAT):
            before = copy.deepcopy(value)
            self.assert_raises(NoState, "state", value, session.change, value, 0, 0, 0)
            self.assert_raises(NoInput, "x", value, session.change, 0, value, 0, 0)
            self.assert_raises(NoOutput, "y", value, session.change, 0, 0, value, 0)
            if value is not None:
                self.assert_raises(BadEntry, "entry", value, session.change, 0, 0, 0, value)
            self.assertEqual(value, before)
            # A refused change is no change.
            self.assertEqual([session.present(), session.changes()], [judge, 1])
        session.undo()
        self.assert_now(session, NEXT, 0)

    def test_several_at_once(self):
        session = Session(NEXT)
        errors = ((NoState, "state"), (NoInput, "x"), (NoOutput, "y"), (BadEntry, "entry"))
        for places in list(itertools.product((False, True), repeat=4))[1:]:
            values = [[0] if place else 0 for place in places]
            error, name = errors[places.index(True)]
            self.assert_raises(error, name, values[places.index(True)], session.change, *values)
        self.assert_now(session, NEXT, 0)

    def test_more_than_2000_relations(self):
        for judge in (TURNS_OF_SEVEN, MAPS):
            session = Session(judge)
            for told in (session.ahead_now, session.table_now, session.certificate_now):
                self.assert_too_many(2000, told)
            self.assertEqual([session.present(), session.changes()], [judge, 0])
        session.change(0, 0, 0, 0)
        session.undo()
        self.assertEqual(session.present(), MAPS)

    def test_720_relations(self):
        session = Session(TURNS)
        self.assert_now(session, TURNS, 0)

    def test_more_than_20000_pairs(self):
        session = Session(race_judge(6, 2))
        self.assert_too_many(20000, session.ahead_now)
        self.assert_too_many(20000, session.table_now)
        self.assertIsNone(session.certificate_now())


class CopiesAndEquality(SessionCase):
    def test_copies_go_on_apart(self):
        session = Session(NEXT)
        session.change(0, 0, 0, 0)
        session.change(1, 1, 0, 1)
        first, second = session.present(), replaced(session.present(), (2, 0, 1), 2)
        other = session.copy()
        self.assertIsNot(other, session)
        self.assertIs(type(other), Session)
        self.assert_now(other, first, 2)
        other.change(2, 0, 1, 2)
        self.assert_now(session, first, 2)
        self.assert_now(other, second, 3)
        session.undo()
        session.undo()
        self.assert_nothing_to_undo(session)
        self.assert_now(other, second, 3)
        other.undo()
        self.assert_now(other, first, 2)
        other.undo()
        other.undo()
        self.assert_now(other, NEXT, 0)
        self.assert_nothing_to_undo(other)

    def test_copies_of_copies(self):
        source = random.Random(105)
        sessions = [(Session(FAR), [FAR])]
        for at in range(60):
            session, judges = source.choice(sessions)
            kind = source.randrange(3)
            if kind == 0:
                sessions.append((session.copy(), list(judges)))
            elif kind == 1 and len(judges) > 1:
                session.undo()
                judges.pop()
            else:
                change = drawn_change(FAR, source)
                session.change(*change)
                judges.append(with_entry(judges[-1], *change))
            for one, expected in sessions:
                self.assertEqual([one.present(), one.changes()], [expected[-1], len(expected) - 1])

    def test_a_copy_at_the_beginning(self):
        other = Session(COPY).copy()
        self.assert_now(other, COPY, 0)
        self.assert_nothing_to_undo(other)

    def test_equal_if_the_judges_are_equal(self):
        one, other = Session(NEXT), Session(NEXT)
        self.assertTrue(one == other)
        self.assertFalse(one != other)
        one.change(0, 0, 0, 2)
        one.change(1, 1, 1, 0)
        self.assertFalse(one == other)
        self.assertTrue(one != other)
        # By other changes, in another sequence, and more of them.
        other.change(1, 1, 1, 0)
        other.change(0, 0, 0, None)
        other.change(0, 0, 0, 2)
        self.assertTrue(one == other)
        self.assertTrue(one == Session(one.present()))
        self.assertTrue(one == one.copy())
        other.undo()
        self.assertFalse(one == other)
        one.undo()
        one.undo()
        self.assertTrue(one == Session(NEXT))

    def test_all_pairs_of_judges(self):
        for one, other in itertools.product(JUDGES, repeat=2):
            self.assertIs(Session(one) == Session(other), one == other)
            self.assertIs(Session(one) != Session(other), one != other)

    def test_a_session_equals_nothing_else(self):
        session = Session(NEXT)
        for value in STRANGE + (NEXT, 0, 1, [NEXT], (NEXT,), object(), Session, 0.0, b""):
            self.assertIs(session == value, False)
            self.assertIs(value == session, False)
            self.assertIs(session != value, True)
