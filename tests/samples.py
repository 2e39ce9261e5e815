"""Judges and values that several tests use."""

import itertools
import random

NEXT = (((1, 2), (1, 2)), ((1, 2), (None, None)), ((None, None), (1, 2)))
FAR = (((1, 2), (0, None), (None, 0)), ((1, 1), (0, 0), (None, None)), ((2, 2), (None, None), (0, 0)))
WALK = (((1,),), ((2,),), ((2,),))
COPY = (((0, None), (None, 0)),)
NONE = (((None,),),)
# After output letter 1, output letter 1 is refused once: the answers are counted by Fibonacci's numbers.
SPARSE = (((0, 1),), ((0, None),))

# Letter 1 exchanges the two states, letters 0 and 2 change nothing: the relation tells how often letter 1 stands.
PARITY = (((0,), (1,), (0,)), ((1,), (0,), (1,)))

GREAT = 10 ** 400 - 1


def nested(kind, depth):
    """Return a value of this kind, so many levels deep."""
    value = 0
    for level in range(depth):
        value = {"tuple": (value,), "list": [value], "dict": {level: value}}[kind]
    return value


# Values that are never a state, a letter, a word, an answer's number, or a judge.
STRANGE = (
    None, True, False, "", "0", "(0,)", "text", [], [0], [0, 0], [(0,)], {}, {0: 0}, {"a": [None, (True,)]},
    nested("tuple", 20), nested("list", 20), nested("dict", 20), (nested("dict", 19),), (True,), (False, False),
    (None,), ("0",), ((0,),), ([0],), (0, [0], {0: 0}), -1, -GREAT, GREAT,
)


def uniform(states, inputs, outputs, entry):
    """Return a value of the form of a judge with the same entry everywhere."""
    return (((entry,) * outputs,) * inputs,) * states


def random_judges(many, seed):
    """Return a list of judges of all sizes, the same in each run."""
    source = random.Random(seed)
    return [random_judge(source) for at in range(many)]


def random_judge(source, states=8, inputs=4, outputs=4):
    states, inputs, outputs = source.randint(1, states), source.randint(1, inputs), source.randint(1, outputs)
    none_of_ten = source.randint(0, 9)

    def entry():
        return None if source.randrange(10) < none_of_ten else source.randrange(states)

    def row():
        return tuple([entry() for y in range(outputs)])

    return tuple([tuple([row() for x in range(inputs)]) for state in range(states)])


def small_judges(many, seed, states=3, inputs=3, outputs=2):
    """Return a list of judges of at most this size, the same in each run."""
    source = random.Random(seed)
    return [random_judge(source, states, inputs, outputs) for at in range(many)]


def line_judge(states, inputs, outputs, seed):
    """Return a judge in which every letter leads to a later state, and the last state to itself."""
    source = random.Random(seed)

    def entry(state):
        return source.randrange(min(state + 1, states - 1), states)

    return tuple([tuple([tuple([entry(state) for y in range(outputs)]) for x in range(inputs)])
                  for state in range(states)])


def maps_judge(*letters):
    """Return the judge of one output letter whose input letters lead each state where these lists say."""
    return tuple([tuple([(letter[state],) for letter in letters]) for state in range(len(letters[0]))])


def later_judge(ahead):
    """Return the judge of two letters for which output letter i must be input letter i + ahead, ahead being 1 or 2.

    A state is the last output letters, up to `ahead` of them, the oldest one first.
    """
    words = [word for length in range(ahead + 1) for word in itertools.product((0, 1), repeat=length)]

    def entry(word, x, y):
        if len(word) < ahead:
            return words.index(word + (y,))
        # The oldest output letter foretold this input letter.
        return words.index(word[1:] + (y,)) if word[0] == x else None

    return tuple([tuple([tuple([entry(word, x, y) for y in (0, 1)]) for x in (0, 1)]) for word in words])


def begun_at(judge, start):
    """Return the judge with another start, the numbers of the two states exchanged."""
    numbers = list(range(len(judge)))
    numbers[0], numbers[start] = start, 0

    def row_with(row):
        return tuple([None if entry is None else numbers[entry] for entry in row])

    return tuple([tuple([row_with(row) for row in judge[state]]) for state in numbers])


def replaced(value, path, part):
    """Return the nested tuple with another part at the place to which the path of indexes leads."""
    if not path:
        return part
    at = path[0]
    return value[:at] + (replaced(value[at], path[1:], part),) + value[at + 1:]


def part_at(value, path):
    for at in path:
        value = value[at]
    return value


def state_paths(judge):
    return [(q,) for q in range(len(judge))]


def row_paths(judge):
    return [(q, x) for q, state in enumerate(judge) for x in range(len(state))]


def entry_paths(judge):
    return [(q, x, y) for q, state in enumerate(judge) for x, row in enumerate(state) for y in range(len(row))]
