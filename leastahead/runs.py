"""Runs of a judge, and the answers to an input word, counted and numbered."""

from leastahead.errors import NoAnswer, NoNumber, Refused
from leastahead.judges import is_number_below, is_tuple_of_numbers, output_count


def passed_states(judge, inputs, outputs):
    """Return the list of the states from the start on, up to the first refused output letter."""
    states = [0]
    for x, y in zip(inputs, outputs):
        entry = judge[states[-1]][x][y]
        if entry is None:
            break
        states.append(entry)
    return states


def run(judge, inputs, outputs):
    """Return the tuple of the states that are passed from the start on, the start included."""
    states = passed_states(judge, inputs, outputs)
    if len(states) <= len(inputs):
        raise Refused(len(states) - 1)
    return tuple(states)


def answers_behind(entry, counts):
    """Return how many answers go on behind an entry, None included, if counts tells it for each state."""
    return 0 if entry is None else counts[entry]


def counts_before(judge, x, counts):
    """Return for each state how many answers there are if letter x stands before what counts is about."""
    return [sum([answers_behind(entry, counts) for entry in state[x]]) for state in judge]


def counts_along(judge, inputs):
    """Return for each index i from 0 to len(inputs) the list that has for each state the number of
    output words that answer inputs[i:] from it."""
    counts = [1] * len(judge)
    lists = [counts]
    for x in reversed(inputs):
        counts = counts_before(judge, x, counts)
        lists.append(counts)
    return lists[::-1]


def count_answers(judge, inputs):
    """Return how many output words answer the inputs from the start."""
    return counts_along(judge, inputs)[0][0]


def split_number(row, counts, number):
    """Return the first letter of the answer with this number, and the number of that answer among
    those that begin with this letter."""
    y = 0
    rest = number
    while rest >= answers_behind(row[y], counts):
        rest -= answers_behind(row[y], counts)
        y += 1
    return y, rest


def answer_at(judge, inputs, number):
    """Return the answer with this number, in ascending order."""
    lists = counts_along(judge, inputs)
    if not is_number_below(number, lists[0][0]):
        raise NoNumber(number)
    state = 0
    rest = number
    outputs = []
    for x, counts in zip(inputs, lists[1:]):
        row = judge[state][x]
        y, rest = split_number(row, counts, rest)
        outputs.append(y)
        state = row[y]
    return tuple(outputs)


def is_answer(judge, inputs, value):
    """Return whether any value answers the inputs from the start."""
    # Not is_output_word: its limit of 400 letters would refuse answers to longer inputs.
    if not is_tuple_of_numbers(value, output_count(judge)) or len(value) != len(inputs):
        return False
    return len(passed_states(judge, inputs, value)) == len(inputs) + 1


def answer_number(judge, inputs, outputs):
    """Return the number of an answer, in ascending order."""
    if not is_answer(judge, inputs, outputs):
        raise NoAnswer(outputs)
    lists = counts_along(judge, inputs)
    state = 0
    number = 0
    for x, y, counts in zip(inputs, outputs, lists[1:]):
        row = judge[state][x]
        number += sum([answers_behind(entry, counts) for entry in row[:y]])
        state = row[y]
    return number
