"""Section 11: the block game; of section 4, guarantee (f)."""

import copy
import itertools
import random

from leastahead.blockgame import choice, is_won, lost_positions, naming, rank, shows_won
from leastahead.errors import Lost, NoState, NotLong, TooMany, Won
from leastahead.pairs import is_enough
from leastahead.relations import all_relations, long_relations
from tests.cases import Case
from tests.plain import Layers, plain_is_enough, plain_ranks
from tests.samples import (
    COPY, DEEP, FAR, GREAT, MAPS, NEXT, NONE, PARITY, SPARSE, STRANGE, TURNS, TURNS_OF_SEVEN, WALK, begun_at,
    later_judge, line_judge, maps_judge, race_judge, random_judge, replaced, small_judges, spoiled, sums_judge,
    uniform,
)

# Letter 1 stands once, and letter 0 must be next. So a block that ends in the first letter 1 is lost, but only if
# the next block begins with letter 1.
ONCE = maps_judge((0, 2, 2), (1, None, 2))
WAIT, LATE = ((1, 2), (1,), (2,)), ((0,), (), (0,))
A, B = ((1, 2), (1, 2), ()), ((1, 2), (), (1, 2))
HAND = [NEXT, FAR, WALK, COPY, NONE, SPARSE, PARITY, ONCE, later_judge(1), later_judge(1, 3), sums_judge(2)]
HAND += [sums_judge(3), race_judge(1), begun_at(later_judge(1), 2), uniform(3, 2, 2, None)]
HAND += [line_judge(states, 2, 2, states) for states in range(2, 5)]


def judges_with_few_relations(many, seed):
    """Judges of 1 to 7 states, so many of each number, with 2 to 30 relations."""
    source = random.Random(seed)
    judges = []
    while len(judges) < 7 * many:
        judge = random_judge(source, 7, 3, 3)
        # Most judges of 7 states have far too many relations for a plain computation.
        if len(judge) == 1 + len(judges) // many and 1 < number_of_relations(judge) <= 30:
            judges.append(judge)
    return judges


def number_of_relations(judge):
    try:
        return len(all_relations(judge))
    except TooMany:
        return 2001


class Game:
    """A judge, its long relations, and the ranks of its lost positions by plain rounds."""

    def __init__(self, judge):
        self.judge = judge
        self.relations = Layers(judge).long_relations()
        self.ranks = plain_ranks(judge, self.relations)
        self.positions = list(itertools.product(range(len(judge)), self.relations))
        self.won = tuple([position for position in self.positions if position not in self.ranks])


GAMES = [Game(judge) for judge in HAND + list(DEEP) + small_judges(40, 51)]
EXAMPLE = GAMES[0]


class Positions(Case):
    def test_examples(self):
        self.assertIs(is_won(FAR, 0, WAIT), False)
        self.assertEqual([rank(FAR, 0, WAIT), rank(FAR, 1, WAIT), rank(FAR, 1, LATE)], [2, 1, 0])

    def test_by_hand(self):
        self.assertEqual(lost_positions(NONE), ((0, ((),)),))
        self.assertEqual(lost_positions(COPY), ())
        self.assertEqual(lost_positions(NEXT), ((1, B), (2, A)))
        self.assertEqual([rank(NEXT, 1, B), rank(NEXT, 2, A), rank(NEXT, 0, A), rank(NEXT, 1, A)], [0, 0, None, None])
        self.assertIs(is_won(NEXT, 0, A), True)
        self.assertIs(is_won(NEXT, 1, B), False)

    def test_against_plain_rounds(self):
        met = {None: 0}
        for game in GAMES:
            self.assertEqual(lost_positions(game.judge), tuple(sorted(game.ranks)), game.judge)
            for state, relation in game.positions:
                expected = game.ranks.get((state, relation))
                found = rank(game.judge, state, relation)
                self.assertEqual(found, expected, (game.judge, state, relation))
                self.assertIs(type(found), type(expected))
                self.assertIs(is_won(game.judge, state, relation), expected is None)
                met[expected] = met.get(expected, 0) + 1
        self.assertEqual(sorted(met.keys() - {None}), [0, 1, 2, 3, 4, 5])
        self.assertGreater(min(met[None], met[0], met[1], met[2]), 10)

    def test_judges_of_1_to_7_states(self):
        for judge in judges_with_few_relations(12, 52):
            game = Game(judge)
            lost = lost_positions(judge)
            self.assertEqual(lost, tuple(sorted(game.ranks)), judge)
            self.assert_plain(lost)
            for state, relation in game.positions[::1 + len(game.positions) // 12]:
                self.assertEqual(rank(judge, state, relation), game.ranks.get((state, relation)))

    def test_the_ranks_of_deep_judges(self):
        greatest = [max(Game(judge).ranks.values()) for judge in DEEP]
        self.assertEqual(greatest, [3, 4, 5, 5])
        for judge, deepest in zip(DEEP, greatest):
            ranks = [rank(judge, state, relation) for state, relation in lost_positions(judge)]
            self.assertEqual(sorted(set(ranks)), list(range(deepest + 1)))

    def test_some_look_ahead_is_enough_exactly_if_the_start_is_won(self):
        met = {True: 0, False: 0}
        for game in GAMES:
            won = all(is_won(game.judge, 0, relation) for relation in game.relations)
            met[won] += 1
            bound = 2 * Layers(game.judge).block_length() - 1
            if len(game.judge) * len(game.judge[0]) ** bound <= 3000:
                self.assertIs(plain_is_enough(game.judge, bound), won, game.judge)
                self.assertIs(is_enough(game.judge, bound), won)
        self.assertGreater(min(met.values()), 15)

    def test_states_that_are_not_reached_have_positions_too(self):
        judge = (((0,),), ((None,),))
        self.assertEqual(lost_positions(judge), ((1, ((0,), ())),))
        self.assertEqual(rank(judge, 1, ((0,), ())), 0)
        self.assertIs(is_won(judge, 0, ((0,), ())), True)

    def test_short_relations_are_not_named(self):
        # The word of one letter leads from state 0 to state 1, longer words to state 2: only their relation is long.
        self.assertEqual(lost_positions(WALK), ())
        # Words of two letters or more lead nowhere.
        self.assertEqual(lost_positions((((1,),), ((None,),))), ((0, ((), ())), (1, ((), ()))))

    def test_by_name(self):
        self.assertIs(is_won(relation=WAIT, state=0, judge=FAR), False)
        self.assertEqual(rank(relation=WAIT, state=0, judge=FAR), 2)
        self.assertEqual(lost_positions(judge=NONE), ((0, ((),)),))


class Play(Case):
    def test_naming_makes_the_rank_smaller(self):
        met = set()
        for game in GAMES:
            for (state, relation), expected in game.ranks.items():
                later = naming(game.judge, state, relation)
                self.assertIn(later, game.relations)
                self.assert_plain(later)
                following = [game.ranks.get((goal, later), GREAT) for goal in relation[state]]
                self.assertLess(max(following, default=-1), expected)
                met.add(expected)
                self.assertEqual(naming(game.judge, state, relation), later)
        self.assertEqual(met, {0, 1, 2, 3, 4, 5})

    def test_naming_in_a_won_position(self):
        many = 0
        for game in GAMES:
            for state, relation in game.won:
                many += 1
                with self.assertRaises(Won):
                    naming(game.judge, state, relation)
        self.assertGreater(many, 100)

    def test_choice_example(self):
        self.assertEqual(choice(NEXT, 0, A, B), 2)

    def test_choice_is_the_least_state(self):
        met = {"least": 0, "not the first": 0, "lost": 0, "lost position": 0}
        for game in GAMES:
            for (state, relation), later in itertools.product(game.positions[::2], game.relations):
                won = [goal for goal in relation[state] if (goal, later) not in game.ranks]
                if won:
                    chosen = choice(game.judge, state, relation, later)
                    self.assertEqual(chosen, won[0])
                    self.assertIs(type(chosen), int)
                    met["least" if won[0] == relation[state][0] else "not the first"] += 1
                    met["lost position"] += (state, relation) in game.ranks
                else:
                    self.assertIn((state, relation), game.ranks)
                    met["lost"] += 1
                    with self.assertRaises(Lost):
                        choice(game.judge, state, relation, later)
        self.assertGreater(min(met.values()), 1, met)

    def test_choice_in_a_lost_position(self):
        zeros, last, first = ((0,), (2,), (2,)), ((1,), (2,), (2,)), ((2,), (), (2,))
        self.assertEqual(rank(ONCE, 0, last), 1)
        self.assertEqual(choice(ONCE, 0, last, zeros), 1)
        self.assertEqual(naming(ONCE, 0, last)[1], ())
        with self.assertRaises(Lost):
            choice(ONCE, 0, last, first)

    def test_choice_goes_on_for_ever_in_won_positions(self):
        source = random.Random(53)
        for game in [game for game in GAMES if game.won]:
            state, relation = game.won[-1]
            for at in range(8):
                later = source.choice(game.relations)
                state, relation = choice(game.judge, state, relation, later), later
                self.assertIn((state, relation), game.won)

    def test_naming_ends_the_game_in_time(self):
        source = random.Random(54)
        for game in [game for game in GAMES if game.ranks]:
            state, relation = max(game.ranks, key=lambda position: game.ranks[position])
            left = game.ranks[(state, relation)]
            while relation[state]:
                left -= 1
                later = naming(game.judge, state, relation)
                state, relation = source.choice(relation[state]), later
            self.assertGreaterEqual(left, 0)

    def test_by_name(self):
        self.assertEqual(choice(later=B, relation=A, state=0, judge=NEXT), 2)
        self.assertIn(naming(relation=WAIT, state=0, judge=FAR), long_relations(FAR))


def functions_of_positions():
    """The functions with the parameters judge, state and relation, choice with several values as its last one."""
    return [is_won, rank, naming] + [
        lambda judge, state, relation, later=later: choice(judge, state, relation, later) for later in (A, None, [A])
    ]


NO_STATES = STRANGE + ((), (0,), [0], "0", -1, -2, 3, 4, GREAT)
NO_LONG = [((1, 2), (1, 2)), A + ((),), ((0,), (1,), (2,)), ((), (), ()), ((2, 1), (1, 2), ()), ((1, 1, 2), (1, 2), ())]
NO_LONG += [((1, 2), (1, 3), ()), WAIT, LATE, ((1,), (2,), (2,)), (A,), (A, B), (), 0, 1] + list(STRANGE) + spoiled(A)


class Errors(Case):
    def test_no_state(self):
        for function in functions_of_positions():
            for value in NO_STATES:
                before = copy.deepcopy(value)
                # The relation is right, or wrong too: the state comes first.
                for relation in (A, WAIT, None, [A], value):
                    self.assert_raises(NoState, "state", value, function, NEXT, value, relation)
                self.assertEqual(value, before)

    def test_not_long(self):
        for function in functions_of_positions():
            for value in NO_LONG:
                before = copy.deepcopy(value)
                for state in (0, 1, 2):
                    self.assert_raises(NotLong, "relation", value, function, NEXT, state, value)
                self.assertEqual(value, before)

    def test_later_is_not_long(self):
        for value in NO_LONG:
            before = copy.deepcopy(value)
            # State 1 is lost with relation B, so Lost would come behind it.
            for state, relation in ((0, A), (0, B), (1, A), (1, B)):
                self.assert_raises(NotLong, "relation", value, choice, NEXT, state, relation, value)
            self.assertEqual(value, before)

    def test_the_first_of_two_wrong_relations(self):
        for first, second in ((WAIT, LATE), ([A], [B]), (None, True)):
            self.assert_raises(NotLong, "relation", first, choice, NEXT, 0, first, second)

    def test_relations_that_are_not_long(self):
        many = 0
        for game in GAMES:
            for relation in set(all_relations(game.judge)) - set(game.relations):
                many += 1
                for function in (is_won, rank, naming):
                    self.assert_raises(NotLong, "relation", relation, function, game.judge, 0, relation)
                later = game.relations[0]
                self.assert_raises(NotLong, "relation", relation, choice, game.judge, 0, relation, later)
                self.assert_raises(NotLong, "relation", relation, choice, game.judge, 0, later, relation)
        self.assertGreater(many, 20)

    def test_relations_of_other_judges(self):
        for game, other in itertools.permutations(GAMES[:12], 2):
            for relation in set(other.relations) - set(game.relations):
                for function in (is_won, rank, naming):
                    self.assert_raises(NotLong, "relation", relation, function, game.judge, 0, relation)

    def test_lost(self):
        for later in (A, B):
            with self.assertRaises(Lost):
                choice(NEXT, 1, B, later)
        with self.assertRaises(Lost):
            choice(NONE, 0, ((),), ((),))
        # Both states can be chosen, but each one is lost with the letter that was not foretold.
        with self.assertRaises(Lost):
            choice(FAR, 1, WAIT, LATE)
        self.assertIs(issubclass(Lost, ValueError) and issubclass(Won, ValueError), True)

    def test_more_than_2000_relations_come_first(self):
        relation = tuple([(state,) for state in range(7)])
        for judge in (TURNS_OF_SEVEN, replaced(TURNS_OF_SEVEN, (3, 1, 0), None), MAPS):
            self.assert_too_many(2000, lost_positions, judge)
            for state, value in itertools.product((0, 7, None, [0]), (relation, None, [relation], ((),) * 7)):
                for function in (is_won, rank, naming):
                    self.assert_too_many(2000, function, judge, state, value)
                for later in (relation, None):
                    self.assert_too_many(2000, choice, judge, state, value, later)
            for value in ((), ((0, relation),), None, [], 0, "", {}, (None,)):
                self.assert_too_many(2000, shows_won, judge, value)

    def test_720_relations(self):
        self.assertEqual(lost_positions(TURNS), ())
        relations = long_relations(TURNS)
        self.assertEqual(len(relations), 720)
        some = relations[100]
        self.assertIs(is_won(TURNS, 3, some), True)
        self.assertIsNone(rank(TURNS, 3, some))
        self.assertEqual(choice(TURNS, 3, some, relations[7]), some[3][0])
        with self.assertRaises(Won):
            naming(TURNS, 3, some)
        self.assert_raises(NoState, "state", 6, rank, TURNS, 6, None)
        self.assert_raises(NotLong, "relation", None, rank, TURNS, 5, None)
        every = tuple(itertools.product(range(6), relations))
        self.assertIs(shows_won(TURNS, every), True)
        self.assertIs(shows_won(TURNS, every[:2000] + every[2001:]), False)

    def test_1546_relations_lost(self):
        # All turnings of five states, with any of them lost on the way.
        judge = maps_judge((1, 2, 3, 4, 0), (1, 0, 2, 3, 4), (0, 1, 2, 3, None))
        relations = long_relations(judge)
        self.assertEqual(len(relations), 1546)
        lost = lost_positions(judge)
        self.assertEqual(lost, tuple(itertools.product(range(5), relations)))
        for state, relation in lost[::700]:
            self.assertEqual(rank(judge, state, relation), len(relation[state]))
            later = naming(judge, state, relation)
            self.assertEqual([later[goal] for goal in relation[state]], [()] * len(relation[state]))
        self.assertIs(shows_won(judge, lost), False)


class ShowsWon(Case):
    def test_examples(self):
        self.assertIs(shows_won(NEXT, ((0, A), (0, B), (1, A), (2, B))), True)
        self.assertIs(shows_won(NEXT, ((0, A), (0, B))), False)

    def assert_as_plain(self, game, value):
        """Check a tuple of positions, all of which are positions of the game."""
        expected = self.plain(game, value)
        self.assertIs(shows_won(game.judge, value), expected, (game.judge, value))
        return expected

    def plain(self, game, value):
        if len(set(value)) != len(value) or not all((0, relation) in value for relation in game.relations):
            return False
        return all(any((goal, later) in value for goal in relation[state])
                   for state, relation in value for later in game.relations)

    def test_all_won_positions_in_any_sequence(self):
        source = random.Random(55)
        met = {True: 0, False: 0}
        for game in GAMES:
            expected = all((0, relation) not in game.ranks for relation in game.relations)
            met[expected] += 1
            for at in range(3):
                value = tuple(source.sample(game.won, len(game.won)))
                self.assertIs(shows_won(game.judge, value), expected)
            self.assertIs(shows_won(game.judge, game.won), expected)
        self.assertGreater(min(met.values()), 15)

    def test_one_left_out(self):
        met = {True: 0, False: 0}
        for game in GAMES:
            for at in range(0, len(game.won), 1 + len(game.won) // 20):
                met[self.assert_as_plain(game, game.won[:at] + game.won[at + 1:])] += 1
        self.assertGreater(min(met.values()), 10)

    def test_one_more(self):
        for game in GAMES:
            for lost in sorted(game.ranks)[::1 + len(game.ranks) // 10]:
                for value in (game.won + (lost,), (lost,) + game.won):
                    self.assertIs(shows_won(game.judge, value), False)

    def test_one_twice(self):
        for game in GAMES:
            for at in range(0, len(game.won), 1 + len(game.won) // 10):
                for value in (game.won + game.won[at:at + 1], game.won[at:at + 1] + game.won):
                    self.assertIs(shows_won(game.judge, value), False)

    def test_all_positions(self):
        for game in GAMES:
            self.assertIs(shows_won(game.judge, tuple(game.positions)), not game.ranks)

    def test_smaller_sets_that_are_closed(self):
        smaller = 0
        source = random.Random(56)
        for game in [game for game in GAMES if not any((0, relation) in game.ranks for relation in game.relations)]:
            for value in (self.chosen(game, min), self.chosen(game, max), self.chosen(game, source.choice)):
                self.assertIs(shows_won(game.judge, value), True)
                smaller += len(value) < len(game.won)
                for at in range(0, len(value), 1 + len(value) // 5):
                    self.assert_as_plain(game, value[:at] + value[at + 1:])
        self.assertGreater(smaller, 20)

    def chosen(self, game, select):
        """The positions that are met from the start on if the converter chooses by this function."""
        met = {(0, relation): True for relation in game.relations}
        done = 0
        while done < len(met):
            state, relation = list(met)[done]
            done += 1
            for later in game.relations:
                met[(select([goal for goal in relation[state] if (goal, later) in game.won]), later)] = True
        return tuple(met)

    def test_drawn_sets(self):
        source = random.Random(57)
        for game in GAMES[:20]:
            for at in range(10):
                starts = [(0, relation) for relation in game.relations]
                others = [position for position in game.positions[len(starts):] if source.randrange(2)]
                self.assert_as_plain(game, tuple(starts + others))

    def test_nothing(self):
        for game in GAMES:
            self.assertIs(shows_won(game.judge, ()), False)

    def test_values_of_any_kind(self):
        for value in STRANGE + (0, 1, [(0, A), (0, B)], {(0, A): True}, (0, A), ((0, A),), ((A, 0),), (A, B)):
            before = copy.deepcopy(value)
            self.assertIs(shows_won(NEXT, value), False)
            self.assertIs(shows_won(COPY, value), False)
            self.assertEqual(value, before)

    def test_one_part_of_another_kind(self):
        self.assertIs(shows_won(NEXT, EXAMPLE.won), True)
        for value in spoiled(EXAMPLE.won):
            before = copy.deepcopy(value)
            self.assertIs(shows_won(NEXT, value), False, value)
            self.assertEqual(value, before)

    def test_one_number_changed(self):
        for game in [EXAMPLE, Game(COPY), Game(SPARSE), Game(PARITY)]:
            self.assertIs(shows_won(game.judge, game.won), True)
            for at, (state, relation) in enumerate(game.won):
                for other in range(-1, len(game.judge) + 1):
                    if other != state:
                        value = replaced(game.won, (at, 0), other)
                        fits = set(value) <= set(game.positions) and self.plain(game, value)
                        self.assertIs(shows_won(game.judge, value), fits)
                for last in (0, len(relation) - 1):
                    for goals in ((), (0,), (1,), (0, 1), (1, 0), (0, 0), (1, 2), (7,), relation[last] * 2):
                        value = replaced(game.won, (at, 1, last), goals)
                        fits = set(value) <= set(game.positions) and self.plain(game, value)
                        self.assertIs(shows_won(game.judge, value), fits)

    def test_positions_of_other_lengths(self):
        for other in ((), (0,), (0, A, A), (0, A, None), (A,)):
            self.assertIs(shows_won(NEXT, replaced(EXAMPLE.won, (0,), other)), False)
            self.assertIs(shows_won(NEXT, EXAMPLE.won + (other,)), False)

    def test_relations_that_are_not_long(self):
        self.assertIs(shows_won(WALK, tuple([(state, ((2,), (2,), (2,))) for state in range(3)])), True)
        for short in (((1,), (2,), (2,)), ((0,), (1,), (2,)), ((), (), ())):
            value = tuple([(state, ((2,), (2,), (2,))) for state in range(3)]) + ((0, short),)
            self.assertIs(shows_won(WALK, value), False)

    def test_by_name(self):
        self.assertIs(shows_won(value=EXAMPLE.won, judge=NEXT), True)
