"""Section 13: judges made of other judges; of section 4, guarantee (e)."""

import copy
import itertools
import random

from leastahead.combining import (
    both, delayed, relettered, renumbered, side_by_side, with_entry, without_unreached,
)
from leastahead.errors import BadEntry, NoInput, NoOutput, NoState, OtherLetters, TooLarge
from leastahead.judges import is_judge, reached_states
from leastahead.least import least_ahead
from tests.cases import Case
from tests.samples import (
    COPY, FAR, GREAT, NEXT, NONE, SPARSE, STRANGE, WALK, entry_paths, later_judge, maps_judge, mixed, part_at,
    race_judge, random_judge, random_judges, replaced, small_judges, sums_judge, uniform, with_unreached,
)

FREE = (((0, 0), (0, 0)),)
FOUR = (((1,),), ((2,),), ((3,),), ((3,),))
THREE = (((0, None, None), (None, 0, None), (0, 0, None)),)
JUDGES = [NEXT, FAR, WALK, COPY, NONE, SPARSE, FREE, FOUR, THREE, later_judge(2), sums_judge(3)] + random_judges(40, 71)


def sizes(judge):
    return (len(judge), len(judge[0]), len(judge[0][0]))


def drawn(source, states, inputs, outputs):
    """Return a judge of just this size."""
    entries = [None] + list(range(states))
    return tuple([tuple([tuple([source.choice(entries) for y in range(outputs)]) for x in range(inputs)])
                  for state in range(states)])


def greatest(one, other):
    """The greater one of two least look-aheads, None if one of them is None."""
    return None if None in (one, other) else max(one, other)


class CombiningCase(Case):
    def assert_too_large(self, limit, function, *call):
        with self.assertRaises(TooLarge) as caught:
            function(*call)
        self.assertEqual(caught.exception.limit, limit)

    def assert_judge(self, judge, size):
        self.assertIs(is_judge(judge), True)
        self.assertEqual(sizes(judge), size)


class SideBySide(CombiningCase):
    def assert_joined(self, one, other):
        (n, h, k), (m, i, o) = sizes(one), sizes(other)
        judge = side_by_side(one, other)
        self.assert_judge(judge, (n * m, h * i, k * o))
        for p, q, x, z, y, v in itertools.product(range(n), range(m), range(h), range(i), range(k), range(o)):
            parts = (one[p][x][y], other[q][z][v])
            expected = None if None in parts else parts[0] * m + parts[1]
            self.assertEqual(judge[p * m + q][x * i + z][y * o + v], expected)

    def test_the_example(self):
        self.assertEqual(side_by_side((((0, None),),), COPY), (((0, None, None, None), (None, 0, None, None)),))

    def test_entry_by_entry(self):
        source = random.Random(72)
        states = [(n, m) for n, m in itertools.product(range(1, 9), repeat=2) if n * m <= 8]
        letters = [(one, other) for one, other in itertools.product(range(1, 5), repeat=2) if one * other <= 4]
        for (n, m), (h, i), (k, o) in itertools.product(states, letters, letters[::3] + letters[-1:]):
            self.assert_joined(drawn(source, n, h, k), drawn(source, m, i, o))

    def test_every_number_of_states_and_letters(self):
        for one, other in itertools.product(range(1, 9), repeat=2):
            judges = (uniform(one, 1, 1, one - 1), uniform(other, 1, 1, 0))
            if one * other <= 8:
                self.assert_joined(*judges)
            else:
                self.assert_too_large(8, side_by_side, *judges)
        for one, other in itertools.product(range(1, 5), repeat=2):
            inputs = (uniform(2, one, 1, 1), uniform(2, other, 1, 0))
            outputs = (uniform(2, 1, one, 0), uniform(2, 1, other, 1))
            for judges in (inputs, outputs):
                if one * other <= 4:
                    self.assert_joined(*judges)
                else:
                    self.assert_too_large(4, side_by_side, *judges)

    def test_just_too_large(self):
        self.assert_too_large(8, side_by_side, uniform(3, 1, 1, 0), uniform(3, 1, 1, 0))
        self.assert_too_large(4, side_by_side, uniform(1, 3, 1, 0), uniform(1, 2, 1, 0))
        self.assert_too_large(4, side_by_side, uniform(1, 1, 3, 0), uniform(1, 1, 2, 0))
        self.assert_too_large(4, side_by_side, uniform(8, 3, 3, 0), uniform(1, 2, 2, 0))

    def test_the_states_come_first(self):
        self.assert_too_large(8, side_by_side, uniform(3, 3, 1, 0), uniform(3, 2, 1, 0))
        self.assert_too_large(8, side_by_side, uniform(3, 1, 3, 0), uniform(3, 1, 2, 0))
        self.assert_too_large(8, side_by_side, uniform(8, 4, 4, 0), uniform(8, 4, 4, 0))

    def test_the_greater_look_ahead(self):
        known = [(COPY, 0), (NEXT, 1), (WALK, 0), (SPARSE, 0), (NONE, None), (sums_judge(2), 1), (race_judge(2), 2)]
        known += [((((0,), (None,)),), None), (maps_judge((1, None)), None), (FREE, 0), (race_judge(1), 1)]
        known += [(judge, least_ahead(judge)) for judge in small_judges(60, 73, 3, 2, 2)]
        met = {None: 0, 0: 0, 1: 0, 2: 0}
        for (one, least), (other, more) in itertools.product(known, repeat=2):
            (n, h, k), (m, i, o) = sizes(one), sizes(other)
            if n * m <= 6 and h * i <= 4 and k * o <= 4:
                expected = greatest(least, more)
                met[expected] += 1
                self.assertEqual(least_ahead(side_by_side(one, other)), expected, (one, other))
        self.assertGreater(min(met.values()), 5, met)

    def test_look_aheads_in_both_sequences(self):
        known = ((NEXT, uniform(2, 2, 2, 1), 1), (later_judge(2), COPY, 2), (sums_judge(4), NONE, None),
                 (sums_judge(4), COPY, 3), (race_judge(5), uniform(1, 1, 2, 0), 5))
        for one, other, expected in known:
            self.assertEqual(least_ahead(side_by_side(one, other)), expected)
            self.assertEqual(least_ahead(side_by_side(other, one)), expected)

    def test_by_name(self):
        self.assertEqual(side_by_side(other=COPY, one=(((0, None),),)), side_by_side((((0, None),),), COPY))


class Both(CombiningCase):
    def assert_joined(self, one, other):
        m = len(other)
        judge = both(one, other)
        self.assert_judge(judge, (len(one) * m,) + sizes(one)[1:])
        for p, q, x, y in itertools.product(range(len(one)), range(m), range(len(one[0])), range(len(one[0][0]))):
            parts = (one[p][x][y], other[q][x][y])
            expected = None if None in parts else parts[0] * m + parts[1]
            self.assertEqual(judge[p * m + q][x][y], expected)

    def test_the_example(self):
        self.assertEqual(both(COPY, FREE), COPY)

    def test_entry_by_entry(self):
        source = random.Random(74)
        for one, other in itertools.product(range(1, 9), repeat=2):
            for inputs, outputs in ((1, 1), (2, 3), (4, 4)):
                judges = (drawn(source, one, inputs, outputs), drawn(source, other, inputs, outputs))
                if one * other <= 8:
                    self.assert_joined(*judges)
                else:
                    self.assert_too_large(8, both, *judges)

    def test_other_letters(self):
        every = list(itertools.product((1, 2, 4), (1, 3, 4)))
        for one, other in itertools.product(every, repeat=2):
            # With few states, and with too many: the letters come first.
            for states in (1, 3, 8):
                judges = (uniform(states, *one, 0), uniform(states, *other, 0))
                if one != other:
                    with self.assertRaises(OtherLetters):
                        both(*judges)
                elif states > 2:
                    self.assert_too_large(8, both, *judges)
                else:
                    self.assert_joined(*judges)

    def test_letters_are_not_exchanged(self):
        with self.assertRaises(OtherLetters):
            both(uniform(1, 2, 3, 0), uniform(1, 3, 2, 0))

    def test_with_itself_and_with_what_allows_all(self):
        for judge in JUDGES:
            if len(judge) <= 2:
                self.assertEqual(least_ahead(both(judge, judge)), least_ahead(judge))
            free = uniform(1, len(judge[0]), len(judge[0][0]), 0)
            self.assertEqual(both(judge, free), judge)
            self.assertEqual(both(free, judge), judge)

    def test_by_name(self):
        self.assertEqual(both(other=FREE, one=COPY), COPY)


class Delayed(CombiningCase):
    def assert_delayed(self, judge):
        n, i, o = sizes(judge)
        later = delayed(judge)
        self.assert_judge(later, (1 + n * i, i, o))
        for x, y in itertools.product(range(i), range(o)):
            self.assertEqual(later[0][x][y], 1 + x)
            for q, z in itertools.product(range(n), range(i)):
                entry = judge[q][z][y]
                self.assertEqual(later[1 + q * i + z][x][y], None if entry is None else 1 + entry * i + x)

    def test_the_example(self):
        self.assertEqual(delayed(COPY), (((1, 1), (2, 2)), ((1, None), (2, None)), ((None, 1), (None, 2))))

    def test_entry_by_entry(self):
        source = random.Random(75)
        for states, inputs, outputs in itertools.product(range(1, 9), range(1, 5), range(1, 5)):
            judge = drawn(source, states, inputs, outputs)
            if 1 + states * inputs <= 8:
                self.assert_delayed(judge)
            else:
                self.assert_too_large(8, delayed, judge)

    def test_just_8_and_just_9_states(self):
        self.assertEqual(len(delayed(uniform(7, 1, 2, 0))), 8)
        self.assert_too_large(8, delayed, uniform(8, 1, 2, 0))
        self.assert_too_large(8, delayed, uniform(4, 2, 1, 0))
        self.assert_too_large(8, delayed, uniform(2, 4, 1, 0))

    def test_one_letter_less(self):
        source = random.Random(76)
        met = {None: 0, 0: 0, 1: 0}
        # No judge that is small enough to be delayed was found that needs two letters.
        needy = [NEXT, sums_judge(2)] + [mixed(judge, source) for judge in (NEXT, sums_judge(2)) for at in range(5)]
        for judge in needy + [COPY, NONE, SPARSE, WALK] + small_judges(150, 76, 3, 2, 2):
            least = least_ahead(judge)
            met[least] += 1
            expected = None if least is None else max(0, least - 1)
            self.assertEqual(least_ahead(delayed(judge)), expected, judge)
        self.assertGreater(min(met.values()), 10, met)

    def test_again(self):
        once = delayed(COPY)
        self.assert_delayed(once)
        self.assertEqual([least_ahead(once), least_ahead(delayed(once))], [0, 0])

    def test_by_name(self):
        self.assertEqual(delayed(judge=COPY), delayed(COPY))


class WithEntry(CombiningCase):
    def test_all_places(self):
        for judge in JUDGES[:20]:
            for q, x, y in entry_paths(judge):
                for entry in [None] + list(range(len(judge))):
                    other = with_entry(judge, q, x, y, entry)
                    self.assertEqual(other, replaced(judge, (q, x, y), entry))
                    self.assertIs(is_judge(other), True)

    def test_the_same_entry(self):
        for judge in JUDGES[:20]:
            for q, x, y in entry_paths(judge):
                self.assertEqual(with_entry(judge, q, x, y, part_at(judge, (q, x, y))), judge)

    def test_values_of_any_kind(self):
        numbers = STRANGE + ((0,), [0], "0", 4, 5, 8, GREAT)
        for value in numbers:
            before = copy.deepcopy(value)
            self.assert_raises(NoState, "state", value, with_entry, NEXT, value, 0, 0, 0)
            self.assert_raises(NoInput, "x", value, with_entry, NEXT, 0, value, 0, 0)
            self.assert_raises(NoOutput, "y", value, with_entry, NEXT, 0, 0, value, 0)
            if value is not None:
                self.assert_raises(BadEntry, "entry", value, with_entry, NEXT, 0, 0, 0, value)
            self.assertEqual(value, before)

    def test_just_beyond(self):
        for judge in JUDGES[:20]:
            n, i, o = sizes(judge)
            for wrong in (-1, n):
                self.assert_raises(NoState, "state", wrong, with_entry, judge, wrong, 0, 0, 0)
                self.assert_raises(BadEntry, "entry", wrong, with_entry, judge, 0, 0, 0, wrong)
            for wrong in (-1, i):
                self.assert_raises(NoInput, "x", wrong, with_entry, judge, 0, wrong, 0, 0)
            for wrong in (-1, o):
                self.assert_raises(NoOutput, "y", wrong, with_entry, judge, 0, 0, wrong, 0)

    def test_several_at_once(self):
        wrong = (None, True, [0], GREAT, "0")
        errors = ((NoState, "state"), (NoInput, "x"), (NoOutput, "y"), (BadEntry, "entry"))
        for places in itertools.product((False, True), repeat=4):
            for value in wrong:
                values = [value if place else 0 for place in places]
                # None is an entry.
                if any(places[:3]) or places[3] and value is not None:
                    error, name = errors[places.index(True)]
                    self.assert_raises(error, name, value, with_entry, NEXT, *values)

    def test_the_judge_is_not_changed(self):
        self.assertEqual(with_entry(COPY, 0, 0, 1, 0), (((0, 0), (None, 0)),))
        self.assertEqual(COPY, (((0, None), (None, 0)),))

    def test_by_name(self):
        self.assertEqual(with_entry(entry=2, y=0, x=0, state=0, judge=WALK), replaced(WALK, (0, 0, 0), 2))


class OtherNumbers(CombiningCase):
    def test_examples(self):
        self.assertEqual(relettered(COPY, (1, 0), (0, 1)), (((None, 0), (0, None)),))
        self.assertEqual(renumbered(WALK, (0, 2, 1)), (((2,),), ((1,),), ((1,),)))
        self.assertEqual(without_unreached(with_entry(WALK, 0, 0, 0, 2)), (((1,),), ((1,),)))
        self.assertEqual(renumbered(FOUR, (0, 2, 3, 1)), (((2,),), ((1,),), ((3,),), ((1,),)))
        self.assertEqual(relettered(THREE, (1, 2, 0), (1, 2, 0)), (((None, 0, 0), (None, 0, None), (None, None, 0)),))

    def orders(self, many, source):
        orders = list(itertools.permutations(range(many)))
        return orders if len(orders) <= 6 else source.sample(orders, 6)

    def test_renumbered(self):
        source = random.Random(77)
        for judge in JUDGES:
            for rest in self.orders(len(judge) - 1, source):
                order = (0,) + tuple([1 + number for number in rest])
                other = renumbered(judge, order)
                self.assert_judge(other, sizes(judge))
                for s, x, y in entry_paths(judge):
                    entry = judge[s][x][y]
                    self.assertEqual(other[order[s]][x][y], None if entry is None else order[entry])
                back = tuple([order.index(number) for number in range(len(order))])
                self.assertEqual(renumbered(other, back), judge)

    def test_relettered(self):
        source = random.Random(78)
        for judge in JUDGES:
            n, i, o = sizes(judge)
            for inputs, outputs in itertools.product(self.orders(i, source), self.orders(o, source)):
                other = relettered(judge, inputs, outputs)
                self.assert_judge(other, sizes(judge))
                for s, x, y in entry_paths(judge):
                    self.assertEqual(other[s][inputs[x]][outputs[y]], judge[s][x][y])

    def test_the_least_look_ahead_stays(self):
        source = random.Random(79)
        for judge, least in ((NEXT, 1), (later_judge(2), 2), (race_judge(4), 4), (FAR, None), (sums_judge(3), 2)):
            n, i, o = sizes(judge)
            order = (0,) + tuple(source.sample(range(1, n), n - 1))
            self.assertEqual(least_ahead(renumbered(judge, order)), least)
            inputs, outputs = tuple(source.sample(range(i), i)), tuple(source.sample(range(o), o))
            self.assertEqual(least_ahead(relettered(judge, inputs, outputs)), least)

    def test_by_name(self):
        self.assertEqual(relettered(outputs=(0, 1), inputs=(1, 0), judge=COPY), (((None, 0), (0, None)),))
        self.assertEqual(renumbered(order=(0, 2, 1), judge=WALK), (((2,),), ((1,),), ((1,),)))
        self.assertEqual(without_unreached(judge=WALK), WALK)


class WithoutUnreached(CombiningCase):
    def test_states_in_the_middle(self):
        judge = (((3,),), ((0,),), ((1,),), ((5,),), ((3,),), ((0,),))
        self.assertEqual(without_unreached(judge), (((1,),), ((2,),), ((0,),)))
        judge = (((None, 4),), ((1, 2),), ((0, 0),), ((3, 3),), ((4, None),))
        self.assertEqual(without_unreached(judge), (((None, 1),), ((1, None),)))

    def test_against_a_plain_construction(self):
        source = random.Random(80)
        less = 0
        for judge in JUDGES + [random_judge(source, 8, 2, 1) for at in range(60)]:
            kept = list(reached_states(judge))
            other = without_unreached(judge)
            less += len(kept) < len(judge)
            self.assert_judge(other, (len(kept),) + sizes(judge)[1:])
            for s, x, y in entry_paths(other):
                entry = judge[kept[s]][x][y]
                self.assertEqual(other[s][x][y], None if entry is None else kept.index(entry))
            self.assertEqual(reached_states(other), tuple(range(len(other))))
            self.assertEqual(without_unreached(other), other)
        self.assertGreater(less, 20)

    def test_all_reached(self):
        for judge in (NEXT, FAR, WALK, COPY, NONE, FOUR):
            self.assertEqual(without_unreached(judge), judge)

    def test_the_start_alone(self):
        self.assertEqual(without_unreached(uniform(8, 2, 2, None)), uniform(1, 2, 2, None))
        self.assertEqual(without_unreached(uniform(8, 2, 2, 0)), uniform(1, 2, 2, 0))

    def test_the_least_look_ahead_stays(self):
        source = random.Random(81)
        for judge, least in ((NEXT, 1), (later_judge(1, 3), 1), (race_judge(2), 2), (FAR, None), (COPY, 0)):
            other = without_unreached(mixed(with_unreached(judge, source), source))
            self.assertEqual(sizes(other), sizes(judge))
            self.assertEqual(least_ahead(other), least)
