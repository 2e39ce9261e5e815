"""Judges and values that several tests use."""

import random

NEXT = (((1, 2), (1, 2)), ((1, 2), (None, None)), ((None, None), (1, 2)))
FAR = (((1, 2), (0, None), (None, 0)), ((1, 1), (0, 0), (None, None)), ((2, 2), (None, None), (0, 0)))
WALK = (((1,),), ((2,),), ((2,),))
COPY = (((0, None), (None, 0)),)
NONE = (((None,),),)
# After output letter 1, output letter 1 is refused once: the answers are counted by Fibonacci's numbers.
SPARSE = (((0, 1),), ((0, None),))

GREAT = 10 ** 400 - 1


def nested(kind, depth):
    """Return a value of this kind, so many levels deep."""
    value = 0
    for level in range(depth):
        value = {"tuple": (value,), "list": [value], "dict": {level: value}}[kind]
    return value


# Values that are never a state, a letter, a word, an answer's number, or a judge.
STRANGE = (
    None, True, False, "", "0", "(0,)", "text", [], [0], [0, 0], [(0,)], {}, {0: 0}, {"a": [None, (True,)]},
    nested("tuple", 20), nested("list", 20), nested("dict", 20), (nested("dict", 19),), (True,), (False, False),
    (None,), ("0",), ((0,),), ([0],), (0, [0], {0: 0}), -1, -GREAT, GREAT,
)


def uniform(states, inputs, outputs, entry):
    """Return a value of the form of a judge with the same entry everywhere."""
    return (((entry,) * outputs,) * inputs,) * states


def random_judges(many, seed):
    """Return a list of judges of all sizes, the same in each run."""
    source = random.Random(seed)
    return [random_judge(source) for at in range(many)]


def random_judge(source):
    states, inputs, outputs = source.randint(1, 8), source.randint(1, 4), source.randint(1, 4)
    none_of_ten = source.randint(0, 9)

    def entry():
        return None if source.randrange(10) < none_of_ten else source.randrange(states)

    def row():
        return tuple([entry() for y in range(outputs)])

    return tuple([tuple([row() for x in range(inputs)]) for state in range(states)])


def replaced(value, path, part):
    """Return the nested tuple with another part at the place to which the path of indexes leads."""
    if not path:
        return part
    at = path[0]
    return value[:at] + (replaced(value[at], path[1:], part),) + value[at + 1:]


def part_at(value, path):
    for at in path:
        value = value[at]
    return value


def state_paths(judge):
    return [(q,) for q in range(len(judge))]


def row_paths(judge):
    return [(q, x) for q, state in enumerate(judge) for x in range(len(state))]


def entry_paths(judge):
    return [(q, x, y) for q, state in enumerate(judge) for x, row in enumerate(state) for y in range(len(row))]
