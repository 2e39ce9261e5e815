"""Judges and values that several tests use."""

import itertools
import random

NEXT = (((1, 2), (1, 2)), ((1, 2), (None, None)), ((None, None), (1, 2)))
FAR = (((1, 2), (0, None), (None, 0)), ((1, 1), (0, 0), (None, None)), ((2, 2), (None, None), (0, 0)))
WALK = (((1,),), ((2,),), ((2,),))
COPY = (((0, None), (None, 0)),)
NONE = (((None,),),)
# After output letter 1, output letter 1 is refused once: the answers are counted by Fibonacci's numbers.
SPARSE = (((0, 1),), ((0, None),))

# Letter 1 exchanges the two states, letters 0 and 2 change nothing: the relation tells how often letter 1 stands.
PARITY = (((0,), (1,), (0,)), ((1,), (0,), (1,)))

GREAT = 10 ** 400 - 1


def nested(kind, depth):
    """Return a value of this kind, so many levels deep."""
    value = 0
    for level in range(depth):
        value = {"tuple": (value,), "list": [value], "dict": {level: value}}[kind]
    return value


# Values that are never a state, a letter, a word, an answer's number, or a judge.
STRANGE = (
    None, True, False, "", "0", "(0,)", "text", [], [0], [0, 0], [(0,)], {}, {0: 0}, {"a": [None, (True,)]},
    nested("tuple", 20), nested("list", 20), nested("dict", 20), (nested("dict", 19),), (True,), (False, False),
    (None,), ("0",), ((0,),), ([0],), (0, [0], {0: 0}), -1, -GREAT, GREAT,
)


def uniform(states, inputs, outputs, entry):
    """Return a value of the form of a judge with the same entry everywhere."""
    return (((entry,) * outputs,) * inputs,) * states


def random_judges(many, seed):
    """Return a list of judges of all sizes, the same in each run."""
    source = random.Random(seed)
    return [random_judge(source) for at in range(many)]


def random_judge(source, states=8, inputs=4, outputs=4):
    states, inputs, outputs = source.randint(1, states), source.randint(1, inputs), source.randint(1, outputs)
    none_of_ten = source.randint(0, 9)

    def entry():
        return None if source.randrange(10) < none_of_ten else source.randrange(states)

    def row():
        return tuple([entry() for y in range(outputs)])

    return tuple([tuple([row() for x in range(inputs)]) for state in range(states)])


def small_judges(many, seed, states=3, inputs=3, outputs=2):
    """Return a list of judges of at most this size, the same in each run."""
    source = random.Random(seed)
    return [random_judge(source, states, inputs, outputs) for at in range(many)]


def line_judge(states, inputs, outputs, seed):
    """Return a judge in which every letter leads to a later state, and the last state to itself."""
    source = random.Random(seed)

    def entry(state):
        return source.randrange(min(state + 1, states - 1), states)

    return tuple([tuple([tuple([entry(state) for y in range(outputs)]) for x in range(inputs)])
                  for state in range(states)])


def maps_judge(*letters):
    """Return the judge of one output letter whose input letters lead each state where these lists say."""
    return tuple([tuple([(letter[state],) for letter in letters]) for state in range(len(letters[0]))])


# All turnings of six states, 720; of seven states, 5040; all maps of five states, 3125.
TURNS = maps_judge((1, 2, 3, 4, 5, 0), (1, 0, 2, 3, 4, 5))
TURNS_OF_SEVEN = maps_judge((1, 2, 3, 4, 5, 6, 0), (1, 0, 2, 3, 4, 5, 6))
MAPS = maps_judge((1, 2, 3, 4, 0), (1, 0, 2, 3, 4), (0, 0, 2, 3, 4))


# Judges whose lost positions have ranks up to 3, 4, 5 and 5.
DEEP = (
    (((None, 0), (1, 2)), ((2, None), (1, 2)), ((1, None), (None, None))),
    (((1, None, 0), (0, None, 0), (None, None, None)), ((None, None, None), (None, None, 1), (None, 2, 1)),
     ((2, 2, 1), (2, 2, None), (1, 1, 0))),
    (((None, None, None), (2, 2, 1), (2, 0, 3)), ((0, 1, 1), (None, 1, 3), (3, 3, 3)),
     ((1, 1, 0), (1, 3, None), (2, None, None)), ((None, None, None), (2, 3, 1), (None, 1, None))),
    (((None, 1, 4), (None, None, 2)), ((4, 3, 2), (None, 0, 2)), ((None, 3, None), (3, 3, 2)),
     ((2, None, None), (None, None, None)), ((None, None, 1), (None, 4, 0))),
)


# The certificate that the document prints for the judge FAR.
FAR_CERTIFICATE = (
    (((0,), (0,), ()), ((0,), (0,), (1,)), ((0,), (0,), (2,))),
    ((1, 2, 0), (2, 1, 0), (1, 0, 2), (2, 0, 1), (0, 0, 0)),
)


def later_judge(ahead, letters=2):
    """Return the judge for which output letter i must be input letter i + ahead: 1 for two or three letters, 2 for two.

    A state is the last output letters, up to `ahead` of them, the oldest one first.
    """
    every = range(letters)
    words = [word for length in range(ahead + 1) for word in itertools.product(every, repeat=length)]

    def entry(word, x, y):
        if len(word) < ahead:
            return words.index(word + (y,))
        # The oldest output letter foretold this input letter.
        return words.index(word[1:] + (y,)) if word[0] == x else None

    return tuple([tuple([tuple([entry(word, x, y) for y in every]) for x in every]) for word in words])


def sums_judge(phases):
    """Return the judge for which, of each `phases` input letters in turn, from 1 to 4, the first output letter must be
    the parity of them all; the other output letters are free. So the least look-ahead is phases - 1.

    State 2 * phase - 1 + parity, or 0 in the first phase: the parity that the inputs left must have.
    """
    def entry(phase, parity, x, y):
        left = (y if phase == 0 else parity) ^ x
        if phase == phases - 1:
            return 0 if left == 0 else None
        return 2 * phase + 1 + left

    states = [(0, 0)] + [(phase, parity) for phase in range(1, phases) for parity in (0, 1)]
    return tuple([tuple([tuple([entry(phase, parity, x, y) for y in (0, 1)]) for x in (0, 1)])
                  for phase, parity in states])


def race_judge(ahead, waits=1):
    """Return the judge whose first output letter must tell which one of the last two input letters comes first, as
    long as the others, the waits, come. It must be right within so many letters, from 1 to 6, if it tells the last
    but one, and for ever if it tells the last one. Then this begins again. So the least look-ahead is `ahead`.
    """
    told = ahead + 1

    def rows(wait, one, other):
        return tuple([(wait, wait)] * waits + [(one, one), (other, other)])

    start = ((1, told),) * (waits + 2)
    return (start, *[rows((state + 1) % told, 0, None) for state in range(1, told)], rows(told, None, 0))


def mixed(judge, source):
    """Return the judge with its states, but for the start, and its letters in other sequences."""
    states, inputs, outputs = [list(range(many)) for many in (len(judge), len(judge[0]), len(judge[0][0]))]
    states[1:] = source.sample(states[1:], len(states) - 1)
    source.shuffle(inputs)
    source.shuffle(outputs)

    def entry(value):
        return None if value is None else states.index(value)

    return tuple([tuple([tuple([entry(judge[state][x][y]) for y in outputs]) for x in inputs]) for state in states])


def with_unreached(judge, source):
    """Return the judge with a further state, which is never reached, but leads anywhere."""
    entries = [None] + list(range(len(judge) + 1))
    return judge + (tuple([tuple([source.choice(entries) for entry in row]) for row in judge[0]]),)


def begun_at(judge, start):
    """Return the judge with another start, the numbers of the two states exchanged."""
    numbers = list(range(len(judge)))
    numbers[0], numbers[start] = start, 0

    def row_with(row):
        return tuple([None if entry is None else numbers[entry] for entry in row])

    return tuple([tuple([row_with(row) for row in judge[state]]) for state in numbers])


# Judges for which no look-ahead is enough.
ENDLESS = (
    FAR, NONE, *DEEP, uniform(3, 2, 2, None), (((0,), (None,)),), begun_at(later_judge(1), 1),
    begun_at(later_judge(1), 2), begun_at(later_judge(2), 3),
    maps_judge((1, 2, 3, 4, 5, 6, 7, 7), (1, 2, 3, 4, 5, 6, 7, None)),
)


def replaced(value, path, part):
    """Return the nested tuple with another part at the place to which the path of indexes leads."""
    if not path:
        return part
    at = path[0]
    return value[:at] + (replaced(value[at], path[1:], part),) + value[at + 1:]


def all_paths(value):
    """Return the paths of indexes to all parts of a nested tuple, the value itself included."""
    if not isinstance(value, tuple):
        return [()]
    return [()] + [(at,) + path for at, part in enumerate(value) for path in all_paths(part)]


def spoiled(value):
    """Return the nested tuple of integers many times, each time with one part of another kind in it."""
    values = []
    for path in all_paths(value):
        part = part_at(value, path)
        if isinstance(part, tuple):
            others = [list(part), dict(enumerate(part)), None, str(part), 0, False]
        else:
            others = [None, True, False, str(part), (part,), [part], {part: part}, -1, -GREAT, GREAT]
        values += [replaced(value, path, other) for other in others]
    return values


def part_at(value, path):
    for at in path:
        value = value[at]
    return value


def state_paths(judge):
    return [(q,) for q in range(len(judge))]


def row_paths(judge):
    return [(q, x) for q, state in enumerate(judge) for x in range(len(state))]


def entry_paths(judge):
    return [(q, x, y) for q, state in enumerate(judge) for x, row in enumerate(state) for y in range(len(row))]
