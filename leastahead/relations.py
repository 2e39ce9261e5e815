"""Relations of words: all of them, the long ones, and the words that have a relation."""

from leastahead.errors import NoRelation, NotLong, NoWord, TooMany
from leastahead.judges import input_count, is_tuple_of_length, is_tuple_of_numbers

MOST_RELATIONS = 2000
LONGEST_LOOP_WORD = 2000


def is_ascending_tuple(value, states):
    """Return whether any value is an ascending tuple of states, of so many states in all."""
    if not is_tuple_of_numbers(value, states):
        return False
    return all([low < high for low, high in zip(value, value[1:])])


def is_relation(judge, value):
    """Return whether any value is a relation of the judge."""
    return is_tuple_of_length(value, len(judge)) and all([is_ascending_tuple(states, len(judge)) for states in value])


def states_behind(states, relation):
    """Return the ascending tuple of the states to which the relation leads from some of these states."""
    return tuple(sorted({goal for state in states for goal in relation[state]}))


def composed_again(one, other, known):
    """Return the two relations composed. `known` keeps what states_behind returned for this other one."""
    for states in one:
        if states not in known:
            known[states] = states_behind(states, other)
    return tuple([known[states] for states in one])


def composed(one, other):
    """Return two relations of equally many states composed."""
    return composed_again(one, other, {})


def relation_of_nothing(judge):
    """Return the relation of the word ()."""
    return tuple([(state,) for state in range(len(judge))])


def relation_of_letter(judge, x):
    """Return the relation of the word (x,)."""
    return tuple([tuple(sorted({entry for entry in state[x] if entry is not None})) for state in judge])


def relations_of_letters(judge):
    """Return the list of the relations of the words of one letter."""
    return [relation_of_letter(judge, x) for x in range(input_count(judge))]


def relation_of(judge, inputs):
    """Return the relation of a word."""
    letters = relations_of_letters(judge)
    known = [{} for letter in letters]
    relation = relation_of_nothing(judge)
    for x in inputs:
        relation = composed_again(relation, letters[x], known[x])
    return relation


class Graph:
    """The relations of all words, and how they go on letter by letter.

    Place 0 is for the word () alone. The other places are for the relations of all other words, in the
    sequence of their least words; so the relation of () has two places if another word has it, too.
    """

    def __init__(self, judge):
        # For each place: its relation, the place behind each further letter, and the place and the
        # letter by which its least word leads to it.
        self.relations = [relation_of_nothing(judge)]
        self.steps = []
        self.origins = [None]
        self.places = {}
        letters = relations_of_letters(judge)
        known = [{} for letter in letters]
        while len(self.steps) < len(self.relations):
            here = len(self.steps)
            row = []
            for x, letter in enumerate(letters):
                row.append(self.place_for(composed_again(self.relations[here], letter, known[x]), (here, x)))
            self.steps.append(row)

    def place_for(self, relation, origin):
        """Return the place of the relation of some word other than (), a new one if it has none."""
        if relation not in self.places:
            if len(self.places) == MOST_RELATIONS:
                raise TooMany(MOST_RELATIONS)
            self.places[relation] = len(self.relations)
            self.relations.append(relation)
            self.origins.append(origin)
        return self.places[relation]

    def word_to(self, place):
        """Return the least word that leads to the place."""
        letters = []
        while place > 0:
            place, x = self.origins[place]
            letters.append(x)
        return tuple(letters[::-1])


def graph_with(judge, relation):
    """Return the graph if some word other than () has the relation, which is any value."""
    graph = Graph(judge)
    # Not every value can be looked up in a dict, but every relation can.
    if not is_relation(judge, relation) or relation not in graph.places:
        raise NoRelation(relation)
    return graph


def all_relations(judge):
    """Return the ascending tuple of the relations of all words other than ()."""
    return tuple(sorted(Graph(judge).relations[1:]))


def least_word(judge, relation):
    """Return the least word other than () with this relation."""
    graph = graph_with(judge, relation)
    return graph.word_to(graph.places[relation])


def arrivals(graph):
    """Return the list that has for each place how many single letters lead to it from some place."""
    counts = [0 for row in graph.steps]
    for row in graph.steps:
        for place in row:
            counts[place] += 1
    return counts


def greatest_lengths(graph):
    """Return a dict with the places to which only finitely many words lead, and how many letters the
    longest of these words has."""
    # Such a place is not behind a loop, so all places before it can be taken away first.
    left = arrivals(graph)
    lengths = {0: 0}
    ready = [0]
    while ready:
        here = ready.pop()
        for place in graph.steps[here]:
            lengths[place] = max(lengths.get(place, 0), lengths[here] + 1)
            left[place] -= 1
            if left[place] == 0:
                ready.append(place)
    return {place: lengths[place] for place in lengths if left[place] == 0}


def long_places(graph):
    """Return the ascending list of the places of the long relations."""
    lengths = greatest_lengths(graph)
    return [place for place in range(len(graph.steps)) if place not in lengths]


def long_relations(judge):
    """Return the ascending tuple of all long relations."""
    graph = Graph(judge)
    return tuple(sorted([graph.relations[place] for place in long_places(graph)]))


def block_length(judge):
    """Return the least number from 1 on such that all words of at least this length have long relations."""
    # The place of () is among them, with length 0, so the answer is at least 1.
    return 1 + max(list(greatest_lengths(Graph(judge)).values()))


def count_words(judge, relation, length):
    """Return how many words of this length have the relation."""
    graph = graph_with(judge, relation)
    # For each place, how many words of so many letters lead from it to the relation.
    counts = [1 if one == relation else 0 for one in graph.relations]
    for step in range(length):
        counts = [sum([counts[place] for place in row]) for row in graph.steps]
    return counts[0]


def ends_in_reach(graph, relation, length):
    """Return for each number from 0 to length the list that tells for each place whether some word of
    so many letters leads from it to the relation."""
    reach = [one == relation for one in graph.relations]
    lists = [reach]
    for step in range(length):
        reach = [any([reach[place] for place in row]) for row in graph.steps]
        lists.append(reach)
    return lists


def first_word(judge, relation, length):
    """Return the first word of this length, in ascending order, that has the relation."""
    graph = graph_with(judge, relation)
    lists = ends_in_reach(graph, relation, length)
    here = 0
    if not lists[length][here]:
        raise NoWord(length)
    letters = []
    for left in reversed(range(length)):
        least = min([x for x, place in enumerate(graph.steps[here]) if lists[left][place]])
        letters.append(least)
        here = graph.steps[here][least]
    return tuple(letters)


def steps_back(graph, places):
    """Return a dict that has for each of the places of the long relations another one of them, from
    which a letter leads to it, and this letter."""
    back = {}
    for here in places:
        for x, place in enumerate(graph.steps[here]):
            if place not in back:
                back[place] = (here, x)
    return back


def loop_to(graph, back, place):
    """Return a loop for the long relation at this place; back is what steps_back returned."""
    here = place
    letters = []
    met = {}
    # Backwards through long relations, of which there are only so many, until one of them is met again.
    while here not in met:
        met[here] = len(letters)
        here, x = back[here]
        letters.append(x)
    around = tuple(letters[met[here]:][::-1])
    behind = tuple(letters[:met[here]][::-1])
    return (graph.word_to(here), around, behind)


def loop_of(judge, relation):
    """Return a loop for a long relation, whose words have at most as many letters as there are relations."""
    graph = Graph(judge)
    places = long_places(graph)
    if not is_relation(judge, relation) or graph.places.get(relation) not in places:
        raise NotLong(relation)
    return loop_to(graph, steps_back(graph, places), graph.places[relation])


def is_loop_word(judge, value):
    """Return whether any value is an input word that is not too long for a loop."""
    return is_tuple_of_numbers(value, input_count(judge)) and len(value) <= LONGEST_LOOP_WORD


def is_loop(judge, value):
    """Return whether any value is a loop for some relation."""
    if not is_tuple_of_length(value, 3) or not all([is_loop_word(judge, word) for word in value]):
        return False
    u, v, w = value
    return v != () and relation_of(judge, u) == relation_of(judge, u + v)


def relation_of_loop(judge, loop):
    """Return the relation for which this is a loop."""
    u, v, w = loop
    return relation_of(judge, u + w)


def shows_loop(judge, relation, value):
    """Return whether any value is a loop for a long relation."""
    # The graph itself is not needed, but its error comes first.
    Graph(judge)
    return is_loop(judge, value) and relation_of_loop(judge, value) == relation
