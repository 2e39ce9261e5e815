"""Sessions: a judge that is changed."""

from leastahead.certificates import certificate
from leastahead.combining import with_entry
from leastahead.errors import BadJudge, NothingToUndo
from leastahead.judges import is_judge
from leastahead.least import least_ahead
from leastahead.pairs import table_for


class Session:
    """A judge, and those that it was before each change."""

    def __init__(self, judge):
        if not is_judge(judge):
            raise BadJudge(judge)
        self.judge = judge
        self.earlier = []

    def change(self, state, x, y, entry):
        """Replace an entry of the judge."""
        changed = with_entry(self.judge, state, x, y, entry)
        self.earlier.append(self.judge)
        self.judge = changed

    def undo(self):
        """Take back the last change that was not taken back."""
        if self.earlier == []:
            raise NothingToUndo()
        self.judge = self.earlier.pop()

    def changes(self):
        """Return how many changes can be taken back."""
        return len(self.earlier)

    def present(self):
        """Return the present judge."""
        return self.judge

    def ahead_now(self):
        """Return the least look-ahead for the present judge, None if none is enough."""
        return least_ahead(self.judge)

    def table_now(self):
        """Return the table for the present judge and its least look-ahead, None if none is enough."""
        ahead = least_ahead(self.judge)
        return None if ahead is None else table_for(self.judge, ahead)

    def certificate_now(self):
        """Return a certificate of the present judge, None if some look-ahead is enough."""
        return certificate(self.judge)

    def copy(self):
        """Return a separate session with the same judge and changes."""
        other = Session(self.judge)
        other.earlier = list(self.earlier)
        return other

    def __eq__(self, other):
        return isinstance(other, Session) and self.judge == other.judge
