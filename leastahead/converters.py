"""Converters that follow a table."""

from leastahead.errors import BadTable, NoInput
from leastahead.judges import input_count, is_number_below
from leastahead.pairs import answers_of_pairs, next_pair, shows_table


class Converter:
    """A converter that follows a table, and what it has read and written so far."""

    def __init__(self, judge, ahead, table):
        if not shows_table(judge, ahead, table):
            raise BadTable(table)
        self.judge = judge
        self.ahead = ahead
        self.table = table
        self.answers = answers_of_pairs(table)
        self.state = 0
        self.letters = []
        self.outputs = []

    def feed(self, letter):
        """Read the next input letter. Return the next output letter, None as long as too few were read."""
        if not is_number_below(letter, input_count(self.judge)):
            raise NoInput(letter)
        pair = (self.state, self.pending())
        self.letters.append(letter)
        if len(self.letters) <= self.ahead:
            return None
        answer = self.answers[pair][letter]
        self.state = next_pair(self.judge, pair, letter, answer)[0]
        self.outputs.append(answer)
        return answer

    def here(self):
        """Return the state behind the written output letters."""
        return self.state

    def pending(self):
        """Return the tuple of the letters that were read but not answered."""
        return tuple(self.letters[len(self.outputs):])

    def written(self):
        """Return the tuple of the written output letters."""
        return tuple(self.outputs)

    def copy(self):
        """Return a separate converter in the same situation."""
        other = Converter(self.judge, self.ahead, self.table)
        other.state = self.state
        other.letters = list(self.letters)
        other.outputs = list(self.outputs)
        return other

    def __len__(self):
        return len(self.letters)

    def __eq__(self, other):
        return (
            isinstance(other, Converter) and self.judge == other.judge and self.ahead == other.ahead
            and self.table == other.table and self.letters == other.letters
        )


def converted(judge, ahead, table, inputs):
    """Return the output letters that a converter with this table writes for the inputs."""
    converter = Converter(judge, ahead, table)
    for letter in inputs:
        converter.feed(letter)
    return converter.written()
