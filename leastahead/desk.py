"""The desk: a session and a converter that are led by lines of text."""

from leastahead.converters import Converter
from leastahead.errors import BadLine, BadWord, NoConverter
from leastahead.judges import is_input_word
from leastahead.pairs import is_enough, table_for
from leastahead.relations import block_length, long_relations
from leastahead.runs import count_answers
from leastahead.sessions import Session
from leastahead.texts import read_judge, show_judge, show_word, word_in

FARTHEST_AHEAD = 100
LONGEST_NUMBER = 3


def say_allow(desk, state, x, y, entry):
    """Change an entry to a state."""
    desk.session.change(state, x, y, entry)
    return "done"


def say_refuse(desk, state, x, y):
    """Change an entry to None."""
    desk.session.change(state, x, y, None)
    return "done"


def say_undo(desk):
    """Take back the last change."""
    desk.session.undo()
    return "done"


def say_changes(desk):
    """Return how many changes can be taken back."""
    return str(desk.session.changes())


def say_judge(desk):
    """Return the text of the present judge in one line."""
    return show_judge(desk.session.present()).replace("\n", " ; ")


def say_least(desk):
    """Return the least look-ahead."""
    ahead = desk.session.ahead_now()
    return "none" if ahead is None else str(ahead)


def say_enough(desk, ahead):
    """Return whether the look-ahead is enough."""
    return "yes" if is_enough(desk.session.present(), ahead) else "no"


def say_length(desk):
    """Return the block length."""
    return str(block_length(desk.session.present()))


def say_long(desk):
    """Return the number of long relations."""
    return str(len(long_relations(desk.session.present())))


def say_count(desk, word):
    """Return how many answers the word has."""
    judge = desk.session.present()
    if not is_input_word(judge, word):
        raise BadWord(word)
    return str(count_answers(judge, word))


def say_begin(desk, ahead):
    """Begin a converter for the present judge."""
    judge = desk.session.present()
    desk.converter = Converter(judge, ahead, table_for(judge, ahead))
    return "done"


def begun_converter(desk):
    """Return the converter that was begun last."""
    # A converter that has read nothing is empty, so only None tells that there is none.
    if desk.converter is None:
        raise NoConverter()
    return desk.converter


def say_feed(desk, x):
    """Return the output letter that the converter writes for the next input letter."""
    answer = begun_converter(desk).feed(x)
    return "-" if answer is None else str(answer)


def say_pending(desk):
    """Return the text of the letters that the converter has not answered."""
    return show_word(begun_converter(desk).pending())


def say_state(desk):
    """Return the state of the converter."""
    return str(begun_converter(desk).here())


ACTIONS = {
    "allow": say_allow, "refuse": say_refuse, "undo": say_undo, "changes": say_changes, "judge": say_judge,
    "least": say_least, "enough": say_enough, "length": say_length, "long": say_long, "count": say_count,
    "begin": say_begin, "feed": say_feed, "pending": say_pending, "state": say_state,
}

# How many numbers stand behind the first word of each line; count is not here, it has a word there.
NUMBERS = {
    "allow": 4, "refuse": 3, "undo": 0, "changes": 0, "judge": 0, "least": 0, "enough": 1, "length": 0, "long": 0,
    "begin": 1, "feed": 1, "pending": 0, "state": 0,
}


def number_in(word):
    """Return the number of which this word is the text, None if there is none."""
    if len(word) > LONGEST_NUMBER or not word.isascii() or not word.isdigit():
        return None
    return None if len(word) > 1 and word.startswith("0") else int(word)


def values_in(name, words):
    """Return the list of the values of a line, from the words behind its name, None if it has no right form."""
    if name == "count":
        word = word_in(" ".join(words))
        return None if word is None else [word]
    numbers = [number_in(word) for word in words]
    if name not in NUMBERS or len(numbers) != NUMBERS[name] or None in numbers:
        return None
    if name in ("enough", "begin") and numbers[0] > FARTHEST_AHEAD:
        return None
    return numbers


class Desk:
    """A session, and the converter that was begun last, None if there was none."""

    def __init__(self, text):
        self.session = Session(read_judge(text))
        self.converter = None

    def say(self, line):
        """Do what the line says, which is any value, and return what it asks for."""
        if not isinstance(line, str):
            raise BadLine(line)
        name, *words = line.split(" ")
        values = values_in(name, words)
        if values is None:
            raise BadLine(line)
        action = ACTIONS[name]
        return action(self, *values)
