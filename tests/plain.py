"""The definitions of DOC.md, computed plainly and slowly."""

import itertools


def words_of(letters, length):
    """All words of this length over so many letters, in ascending order."""
    return list(itertools.product(range(letters), repeat=length))


def words_up_to(letters, longest):
    return [word for length in range(longest + 1) for word in words_of(letters, length)]


def end_of(judge, state, inputs, outputs):
    """The state to which the outputs lead, None if one of them is refused."""
    for x, y in zip(inputs, outputs):
        state = judge[state][x][y]
        if state is None:
            return None
    return state


def relation_by_outputs(judge, word):
    """The relation of a word, by a walk over all output words."""
    relation = []
    for state in range(len(judge)):
        ends = {end_of(judge, state, word, outputs) for outputs in words_of(len(judge[0][0]), len(word))}
        relation.append(tuple(sorted(ends - {None})))
    return tuple(relation)


def relation_by_steps(judge, word):
    """The relation of a word that is too long for a walk over all output words."""
    relation = []
    for state in range(len(judge)):
        here = {state}
        for x in word:
            here = {entry for one in here for entry in judge[one][x]} - {None}
        relation.append(tuple(sorted(here)))
    return tuple(relation)


def joined(one, other):
    """Two relations composed."""
    many = len(one)
    return tuple([tuple([goal for goal in range(many) if any(goal in other[middle] for middle in states)])
                  for states in one])


class Layers:
    """The relations of the words of 1, 2, .. letters: which, how many words have each, and the first one."""

    def __init__(self, judge):
        self.letters = [relation_by_outputs(judge, (x,)) for x in range(len(judge[0]))]
        self.layers = [{}]
        for x, letter in enumerate(self.letters):
            count, first = self.layers[0].get(letter, (0, (x,)))
            self.layers[0][letter] = (count + 1, first)

    def layer(self, length):
        """A dict with the relations of the words of this length: how many words, and the first one."""
        while len(self.layers) < length:
            following = {}
            # In ascending order of the first words, so that the first word found is the first one of all.
            for relation, (count, first) in sorted(self.layers[-1].items(), key=lambda item: item[1][1]):
                for x, letter in enumerate(self.letters):
                    relation_behind = joined(relation, letter)
                    before, word = following.get(relation_behind, (0, first + (x,)))
                    following[relation_behind] = (before + count, min(word, first + (x,)))
            self.layers.append(following)
        return self.layers[length - 1]

    def around(self):
        """The lengths i < j, least ones, such that words of both lengths have the same relations."""
        met = {}
        length = 1
        while frozenset(self.layer(length)) not in met:
            met[frozenset(self.layer(length))] = length
            length += 1
        return met[frozenset(self.layer(length))], length

    def all_relations(self):
        return tuple(sorted({relation for length in range(1, self.around()[1]) for relation in self.layer(length)}))

    def long_relations(self):
        # From then on the same sets of relations come back again and again.
        first, behind = self.around()
        return tuple(sorted({relation for length in range(first, behind) for relation in self.layer(length)}))

    def block_length(self):
        others = set(self.all_relations()) - set(self.long_relations())
        lengths = [length for length in range(1, self.around()[1]) if others & set(self.layer(length))]
        return 1 + max(lengths, default=0)

    def least_word(self, relation):
        length = 1
        while relation not in self.layer(length):
            length += 1
        return self.layer(length)[relation][1]


def all_pairs(judge, ahead):
    return [(state, word) for state in range(len(judge)) for word in words_of(len(judge[0]), ahead)]


def goals(judge, pair, x):
    """The pairs to which an allowed output letter leads, as a list of (output letter, pair)."""
    word = pair[1] + (x,)
    return [(y, (entry, word[1:])) for y, entry in enumerate(judge[pair[0]][word[0]]) if entry is not None]


def plain_safe_pairs(judge, ahead):
    safe = set(all_pairs(judge, ahead))
    while True:
        kept = {pair for pair in safe
                if all(any(goal in safe for y, goal in goals(judge, pair, x)) for x in range(len(judge[0])))}
        if kept == safe:
            return tuple(sorted(safe))
        safe = kept


def plain_is_enough(judge, ahead):
    safe = set(plain_safe_pairs(judge, ahead))
    return all((0, word) in safe for word in words_of(len(judge[0]), ahead))


def answer_choices(judge, safe, pair):
    """For each input letter the list of the answers that lead from the pair to a safe pair."""
    return [[y for y, goal in goals(judge, pair, x) if goal in safe] for x in range(len(judge[0]))]


def plain_table(judge, ahead):
    safe = plain_safe_pairs(judge, ahead)
    return tuple([pair + (tuple([choice[0] for choice in answer_choices(judge, set(safe), pair)]),) for pair in safe])


def plain_is_table(judge, ahead, table):
    """Whether a tuple of rows (state, pending, answers) with integers of any size is a table."""
    pairs = [row[:2] for row in table]
    if list(table) != sorted(set(table)) or len(set(pairs)) != len(pairs):
        return False
    if not set(pairs) <= set(all_pairs(judge, ahead)):
        return False
    if not all((0, word) in pairs for word in words_of(len(judge[0]), ahead)):
        return False
    for state, pending, answers in table:
        if len(answers) != len(judge[0]):
            return False
        for x, y in enumerate(answers):
            if dict(goals(judge, (state, pending), x)).get(y) not in pairs:
                return False
    return True


def plain_used_rows(judge, table):
    rows = {row[:2]: row for row in table}
    used = {pair for pair in rows if pair[0] == 0}
    while True:
        more = {dict(goals(judge, pair, x))[rows[pair][2][x]] for pair in used for x in range(len(judge[0]))}
        if more <= used:
            return tuple([row for row in table if row[:2] in used])
        used |= more


def plain_outputs(judge, ahead, table, inputs):
    """The output letters and the states from the start on, by a walk along the rows."""
    rows = {row[:2]: row[2] for row in table}
    states, outputs = [0], []
    for at in range(len(inputs) - ahead):
        answer = rows[(states[-1], inputs[at:at + ahead])][inputs[at + ahead]]
        outputs.append(answer)
        states.append(judge[states[-1]][inputs[at]][answer])
    return tuple(outputs), tuple(states)


def plain_ranks(judge, relations):
    """The ranks of all lost positions, by rounds over all positions."""
    positions = [(state, relation) for state in range(len(judge)) for relation in relations]
    ranks = {(state, relation): 0 for state, relation in positions if relation[state] == ()}
    while True:
        found = {}
        for state, relation in positions:
            if (state, relation) not in ranks:
                greatest = [max(ranks[(goal, later)] for goal in relation[state]) for later in relations
                            if all((goal, later) in ranks for goal in relation[state])]
                if greatest:
                    found[(state, relation)] = 1 + min(greatest)
        if not found:
            return ranks
        ranks.update(found)


def plain_is_block(judge, block):
    """Whether a tuple of three words is a block."""
    u, v, w = block
    return (max(len(u), len(v), len(w)) <= 2000 and v != ()
            and relation_by_steps(judge, u) == relation_by_steps(judge, u + v))


def plain_is_certificate(judge, value):
    """Whether blocks, each of three words, and rows, each of three integers, are a certificate."""
    blocks, rows = value
    if not blocks or not rows or not all(plain_is_block(judge, block) for block in blocks):
        return False
    relations = [relation_by_steps(judge, u + w) for u, v, w in blocks]
    for at, (state, block, following) in enumerate(rows):
        if state not in range(len(judge)) or block not in range(len(blocks)) or following not in range(len(blocks)):
            return False
        for goal in relations[block][state]:
            if (goal, following) not in [row[:2] for row in rows[:at]]:
                return False
    return rows[-1][0] == 0
