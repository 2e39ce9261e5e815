"""The texts of judges, tables and words."""

from leastahead.errors import BadText
from leastahead.judges import LONGEST_WORD, MOST_LETTERS, MOST_STATES, is_judge
from leastahead.pairs import shows_table

# Every number in these texts is below 8, so it has one digit.
DIGITS = ("0", "1", "2", "3", "4", "5", "6", "7")
NOTHING = "-"


def show_entry(entry):
    """Return the text of an entry."""
    return NOTHING if entry is None else str(entry)


def show_state(state):
    """Return the line of a state."""
    return " | ".join([" ".join([show_entry(entry) for entry in row]) for row in state])


def show_judge(judge):
    """Return the text of a judge."""
    return "\n".join([show_state(state) for state in judge])


def show_word(word):
    """Return the text of a word."""
    return " ".join([str(letter) for letter in word]) if word else NOTHING


def show_table(table):
    """Return the text of a table."""
    return "\n".join([f"{state} : {show_word(pending)} : {show_word(answers)}" for state, pending, answers in table])


def are_entries(words, many):
    """Return whether these are the texts of so many entries."""
    return len(words) == many and all([word == NOTHING or word in DIGITS for word in words])


def state_in(line):
    """Return the state of which this is the line, None if there is none."""
    rows = [row.split(" ") for row in line.split(" | ")]
    if len(rows) > MOST_LETTERS or len(rows[0]) > MOST_LETTERS:
        return None
    if not all([are_entries(row, len(rows[0])) for row in rows]):
        return None
    return tuple([tuple([None if word == NOTHING else int(word) for word in row]) for row in rows])


def can_follow(state, states):
    """Return whether a judge's text that begins with these states may go on with this one."""
    if len(states) == MOST_STATES:
        return False
    return states == [] or len(state) == len(states[0]) and len(state[0]) == len(states[0][0])


def read_judge(text):
    """Return the judge of which any value is the text."""
    if not isinstance(text, str):
        raise BadText(0)
    states = []
    for line in text.split("\n"):
        state = state_in(line)
        if state is None or not can_follow(state, states):
            raise BadText(len(states))
        states.append(state)
    # All lines are right one by one, so only the number of a state without a line can be wrong.
    if not is_judge(tuple(states)):
        raise BadText(len(states))
    return tuple(states)


def letters_in(text):
    """Return the tuple of the letters of which this is the text, None if there is none."""
    if text == NOTHING:
        return ()
    words = text.split(" ")
    if not all([word in DIGITS[:MOST_LETTERS] for word in words]):
        return None
    return tuple([int(word) for word in words])


def word_in(text):
    """Return the word of which any value is the text, None if there is none."""
    word = letters_in(text) if isinstance(text, str) else None
    return None if word is None or len(word) > LONGEST_WORD else word


def read_word(text):
    """Return the word of which any value is the text."""
    word = word_in(text)
    if word is None:
        raise BadText(0)
    return word


def row_in(line):
    """Return the row of a table of which this is the line; what cannot be read is None in it."""
    state, first, more = line.partition(" : ")
    pending, second, answers = more.partition(" : ")
    return (int(state) if state in DIGITS else None, letters_in(pending), letters_in(answers))


def read_table(judge, ahead, text):
    """Return the table of the judge and the look-ahead of which any value is the text."""
    if not isinstance(text, str):
        raise BadText(0)
    table = tuple([row_in(line) for line in text.split("\n")])
    if not shows_table(judge, ahead, table):
        raise BadText(0)
    return table
