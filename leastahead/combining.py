"""Judges made of other judges."""

from leastahead.errors import BadEntry, OtherLetters, TooLarge
from leastahead.judges import (
    MOST_LETTERS, MOST_STATES, check_place, input_count, is_entry, output_count, reached_states,
)


def check_states(states):
    """Raise TooLarge if a judge cannot have so many states."""
    if states > MOST_STATES:
        raise TooLarge(MOST_STATES)


def check_letters(letters):
    """Raise TooLarge if a judge cannot have so many input letters or output letters."""
    if letters > MOST_LETTERS:
        raise TooLarge(MOST_LETTERS)


def joined_entry(one, other, many):
    """Return the entry of two entries together, if the second judge has so many states."""
    if one is None or other is None:
        return None
    return one * many + other


def product_row(one, other, many):
    """Return the row with each entry of the first row together with each of the second one."""
    return tuple([joined_entry(entry, more, many) for entry in one for more in other])


def product_state(one, other, many):
    """Return the state with each row of the first state together with each of the second one."""
    return tuple([product_row(row, more, many) for row in one for more in other])


def side_by_side(one, other):
    """Return the judge of both judges at once, with letters for each of them."""
    check_states(len(one) * len(other))
    check_letters(input_count(one) * input_count(other))
    check_letters(output_count(one) * output_count(other))
    return tuple([product_state(state, more, len(other)) for state in one for more in other])


def common_row(one, other, many):
    """Return the row of two rows for the same output letters."""
    return tuple([joined_entry(entry, more, many) for entry, more in zip(one, other)])


def common_state(one, other, many):
    """Return the state of two states for the same letters."""
    return tuple([common_row(row, more, many) for row, more in zip(one, other)])


def both(one, other):
    """Return the judge that allows what both judges allow, for the same letters."""
    if input_count(one) != input_count(other) or output_count(one) != output_count(other):
        raise OtherLetters()
    check_states(len(one) * len(other))
    return tuple([common_state(state, more, len(other)) for state in one for more in other])


def delayed_entry(entry, letters, x):
    """Return the entry for the state in which letter x is judged behind this entry."""
    return None if entry is None else 1 + entry * letters + x


def delayed_state(row, letters):
    """Return the state in which the output letters are judged by this row, whatever input letter is read."""
    return tuple([tuple([delayed_entry(entry, letters, x) for entry in row]) for x in range(letters)])


def delayed(judge):
    """Return the judge for which each output letter but the first one is judged for the input letter before."""
    letters = input_count(judge)
    check_states(1 + len(judge) * letters)
    start = tuple([(1 + x,) * output_count(judge) for x in range(letters)])
    return (start,) + tuple([delayed_state(row, letters) for state in judge for row in state])


def with_item(items, at, item):
    """Return the tuple with another item at this index."""
    return items[:at] + (item,) + items[at + 1:]


def with_entry(judge, state, x, y, entry):
    """Return the judge with another entry."""
    check_place(judge, state, x, y)
    if not is_entry(entry, len(judge)):
        raise BadEntry(entry)
    rows = judge[state]
    return with_item(judge, state, with_item(rows, x, with_item(rows[x], y, entry)))


def placed(items, numbers):
    """Return the tuple in which each item has the place that the numbers have for it."""
    return tuple([items[numbers.index(place)] for place in range(len(items))])


def with_numbers(state, numbers):
    """Return the state with other numbers in its entries."""
    return tuple([tuple([None if entry is None else numbers[entry] for entry in row]) for row in state])


def renumbered(judge, order):
    """Return the same judge with other numbers of states."""
    return placed([with_numbers(state, order) for state in judge], order)


def relettered(judge, inputs, outputs):
    """Return the same judge with other letters."""
    return tuple([placed([placed(row, outputs) for row in state], inputs) for state in judge])


def without_unreached(judge):
    """Return the judge without the states that are not reached."""
    reached = reached_states(judge)
    numbers = {state: number for number, state in enumerate(reached)}
    return tuple([with_numbers(judge[state], numbers) for state in reached])
