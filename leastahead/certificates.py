"""Certificates that no look-ahead is enough, and how they defeat a converter."""

from leastahead.blockgame import plans_for
from leastahead.errors import BadCertificate
from leastahead.judges import is_number_below, is_tuple_of_length, output_count
from leastahead.relations import Graph, is_loop, long_places, loop_to, relation_of_loop, steps_back


def plays_from(plans, first):
    """Return the list of (state, relation, the relation to be named) for all lost positions that can be met
    behind the start with the relation first, this one included."""
    met = {(0, first): True}
    ready = [(0, first)]
    plays = []
    while ready:
        state, relation = ready.pop()
        later = plans[relation[state]][1]
        plays.append((state, relation, later))
        for goal in relation[state]:
            if (goal, later) not in met:
                met[(goal, later)] = True
                ready.append((goal, later))
    return plays


def rank_of_play(plans, play):
    """Return the rank of the position of a play."""
    state, relation, later = play
    return plans[relation[state]][0]


def certificate(judge):
    """Return a certificate, None if some look-ahead is enough."""
    graph = Graph(judge)
    places = long_places(graph)
    plans = plans_for([graph.relations[place] for place in places])
    lost = [place for place in places if graph.relations[place][0] in plans]
    if not lost:
        return None
    # What can be chosen next has a smaller rank, so in the sequence of the ranks it stands earlier.
    plays = sorted(plays_from(plans, graph.relations[lost[0]]), key=lambda play: rank_of_play(plans, play))
    used = sorted({graph.places[relation] for play in plays for relation in play[1:]})
    back = steps_back(graph, places)
    blocks = [loop_to(graph, back, place) for place in used]
    numbers = {graph.relations[place]: number for number, place in enumerate(used)}
    rows = [(state, numbers[relation], numbers[later]) for state, relation, later in plays]
    return (tuple(blocks), tuple(rows))


def is_certificate_row(judge, blocks, value):
    """Return whether any value has the form of a row, if there are so many blocks."""
    if not is_tuple_of_length(value, 3):
        return False
    state, block, later = value
    return is_number_below(state, len(judge)) and is_number_below(block, blocks) and is_number_below(later, blocks)


def are_rows_in_order(relations, rows):
    """Return whether all that can be chosen behind each row has an earlier row, the relations being those of
    the blocks."""
    earlier = {}
    for state, block, later in rows:
        if not all([(goal, later) in earlier for goal in relations[block][state]]):
            return False
        earlier[(state, block)] = True
    return True


def shows_certificate(judge, value):
    """Return whether any value is a certificate."""
    if not is_tuple_of_length(value, 2):
        return False
    blocks, rows = value
    if not isinstance(blocks, tuple) or not isinstance(rows, tuple) or blocks == () or rows == ():
        return False
    if not all([is_loop(judge, block) for block in blocks]):
        return False
    if not all([is_certificate_row(judge, len(blocks), row) for row in rows]):
        return False
    relations = [relation_of_loop(judge, block) for block in blocks]
    return rows[-1][0] == 0 and are_rows_in_order(relations, rows)


def block_word(block, least):
    """Return the shortest word of the block that has at least so many letters."""
    u, v, w = block
    missing = max(0, least - len(u) - len(w))
    copies = (missing + len(v) - 1) // len(v)
    return u + v * copies + w


def state_behind(judge, state, x, value):
    """Return the next state for any value as output letter, None if it is refused or is no output letter."""
    if not is_number_below(value, output_count(judge)):
        return None
    return judge[state][x][value]


def names_of_rows(rows):
    """Return a dict that has for each state and block the next block of the first row with them."""
    names = {}
    for state, block, later in rows:
        names.setdefault((state, block), later)
    return names


def defeat(judge, value, ahead, answer):
    """Return inputs, and the outputs of the converter for them, of which only the last one is not allowed."""
    if not shows_certificate(judge, value):
        raise BadCertificate(value)
    blocks, rows = value
    names = names_of_rows(rows)
    state, block, later = rows[-1]
    inputs = block_word(blocks[block], ahead)
    outputs = []
    while True:
        # The next block has `ahead` letters at least, so all letters before it must be answered.
        end = len(inputs)
        inputs += block_word(blocks[later], ahead)
        while len(outputs) < end:
            read = inputs[:len(outputs) + 1 + ahead]
            x = inputs[len(outputs)]
            outputs.append(answer(read))
            state = state_behind(judge, state, x, outputs[-1])
            if state is None:
                return (read, tuple(outputs))
        later = names[(state, later)]
