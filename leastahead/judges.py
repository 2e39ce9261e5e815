"""Judges: what they are, their letters, words and states."""

from leastahead.errors import NoInput, NoOutput, NoState

MOST_STATES = 8
MOST_LETTERS = 4
LONGEST_WORD = 400


def is_number_below(value, limit):
    """Return whether any value is an integer from 0 to limit - 1."""
    # Python counts True and False among the ints, the document does not.
    if isinstance(value, bool) or not isinstance(value, int):
        return False
    return 0 <= value < limit


def is_tuple_of_length(value, length):
    """Return whether any value is a tuple of this length."""
    return isinstance(value, tuple) and len(value) == length


def is_entry(value, states):
    """Return whether any value is an entry of a judge with so many states."""
    return value is None or is_number_below(value, states)


def is_row(value, states, outputs):
    """Return whether any value is a row of so many entries."""
    return is_tuple_of_length(value, outputs) and all([is_entry(entry, states) for entry in value])


def is_state(value, states, inputs, outputs):
    """Return whether any value is a tuple of so many rows."""
    return is_tuple_of_length(value, inputs) and all([is_row(row, states, outputs) for row in value])


def is_filled_tuple(value, most):
    """Return whether any value is a tuple of 1 to `most` items."""
    return isinstance(value, tuple) and 1 <= len(value) <= most


def is_judge(value):
    """Return whether any value is a judge."""
    if not is_filled_tuple(value, MOST_STATES):
        return False
    first = value[0]
    # The first state and its first row set the lengths that all others must have.
    if not is_filled_tuple(first, MOST_LETTERS) or not is_filled_tuple(first[0], MOST_LETTERS):
        return False
    return all([is_state(state, len(value), len(first), len(first[0])) for state in value])


def input_count(judge):
    """Return the number of input letters."""
    return len(judge[0])


def output_count(judge):
    """Return the number of output letters."""
    return len(judge[0][0])


def is_tuple_of_numbers(value, limit):
    """Return whether any value is a tuple of integers from 0 to limit - 1, however many."""
    return isinstance(value, tuple) and all([is_number_below(number, limit) for number in value])


def is_input_word(judge, value):
    """Return whether any value is an input word of at most 400 letters."""
    return is_tuple_of_numbers(value, input_count(judge)) and len(value) <= LONGEST_WORD


def is_output_word(judge, value):
    """Return whether any value is an output word of at most 400 letters."""
    return is_tuple_of_numbers(value, output_count(judge)) and len(value) <= LONGEST_WORD


def check_place(judge, state, x, y):
    """Raise an error unless these values are a state, an input letter and an output letter."""
    if not is_number_below(state, len(judge)):
        raise NoState(state)
    if not is_number_below(x, input_count(judge)):
        raise NoInput(x)
    if not is_number_below(y, output_count(judge)):
        raise NoOutput(y)


def next_state(judge, state, x, y):
    """Return the next state for input letter x and output letter y, None if y is refused."""
    check_place(judge, state, x, y)
    return judge[state][x][y]


def reached_states(judge):
    """Return the ascending tuple of the states that are reached from the start, with it."""
    reached = [0]
    done = 0
    while done < len(reached):
        state = judge[reached[done]]
        done += 1
        for row in state:
            for entry in row:
                if entry is not None and entry not in reached:
                    reached.append(entry)
    return tuple(sorted(reached))
