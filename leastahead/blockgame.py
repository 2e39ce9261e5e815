"""The block game: which positions are won, which are lost and how soon, and how to play them."""

from leastahead.errors import Lost, NoState, NotLong, Won
from leastahead.judges import is_number_below, is_tuple_of_length
from leastahead.relations import is_relation, long_relations

# The goals of a position are the states to which its relation leads from its state. How the game goes on depends
# on the goals alone, and of 8 states there are few tuples, so all that is found out is kept for the goals.


def is_part(some, states):
    """Return whether all of some states are among these states."""
    return all([state in states for state in some])


def lost_states(relation, plans):
    """Return the tuple of the states from which the position with this relation is known to be lost."""
    return tuple([state for state, goals in enumerate(relation) if goals in plans])


def newly_lost(left, relations, plans):
    """Return a dict with those goals of the list left of which all are lost behind some relation, and this one."""
    names = {lost_states(relation, plans): relation for relation in relations}
    found = {}
    for goals in left:
        fitting = [states for states in names if is_part(goals, states)]
        if fitting:
            found[goals] = names[fitting[0]]
    return found


def plans_for(relations):
    """Return a dict that has for the goals of each lost position its rank, and a relation to be named there.

    The relations are all long ones.
    """
    plans = {}
    left = sorted({goals for relation in relations for goals in relation})
    rounds = 0
    found = newly_lost(left, relations, plans)
    while found:
        for goals in found:
            plans[goals] = (rounds, found[goals])
        left = [goals for goals in left if goals not in plans]
        rounds += 1
        found = newly_lost(left, relations, plans)
    return plans


def is_long(judge, relations, value):
    """Return whether any value is one of the long relations."""
    return is_relation(judge, value) and value in relations


def goals_at(judge, relations, state, relation):
    """Return the goals of the position with this state and this relation, which are any values."""
    if not is_number_below(state, len(judge)):
        raise NoState(state)
    if not is_long(judge, relations, relation):
        raise NotLong(relation)
    return relation[state]


def rank(judge, state, relation):
    """Return the rank of a position, None if it is won."""
    relations = long_relations(judge)
    goals = goals_at(judge, relations, state, relation)
    plans = plans_for(relations)
    return plans[goals][0] if goals in plans else None


def is_won(judge, state, relation):
    """Return whether the position is won."""
    return rank(judge, state, relation) is None


def lost_positions(judge):
    """Return the ascending tuple of all lost positions."""
    relations = long_relations(judge)
    plans = plans_for(relations)
    return tuple([
        (state, relation) for state in range(len(judge)) for relation in relations if relation[state] in plans
    ])


def naming(judge, state, relation):
    """Return a long relation after which all positions that can be chosen have a smaller rank."""
    relations = long_relations(judge)
    goals = goals_at(judge, relations, state, relation)
    plans = plans_for(relations)
    if goals not in plans:
        raise Won()
    return plans[goals][1]


def choice(judge, state, relation, later):
    """Return the least state that can be chosen such that the position with the relation later is won."""
    relations = long_relations(judge)
    goals = goals_at(judge, relations, state, relation)
    if not is_long(judge, relations, later):
        raise NotLong(later)
    plans = plans_for(relations)
    won = [goal for goal in goals if later[goal] not in plans]
    if not won:
        raise Lost()
    return min(won)


def is_position(judge, known, value):
    """Return whether any value is a position, known being a dict of all long relations."""
    if not is_tuple_of_length(value, 2):
        return False
    state, relation = value
    # Not every value can be looked up in a dict, but every relation can.
    return is_number_below(state, len(judge)) and is_relation(judge, relation) and relation in known


def states_of_relations(relations, positions):
    """Return a dict that has for each relation the list of the states with which it is in the positions."""
    held = {relation: [] for relation in relations}
    for state, relation in positions:
        held[relation].append(state)
    return held


def shows_won(judge, value):
    """Return whether any value is a tuple of positions, with all of the start, in which the converter can stay."""
    relations = long_relations(judge)
    known = {relation: True for relation in relations}
    if not isinstance(value, tuple) or not all([is_position(judge, known, position) for position in value]):
        return False
    if len(set(value)) != len(value):
        return False
    held = states_of_relations(relations, value)
    if not all([0 in held[relation] for relation in relations]):
        return False
    # Many positions have the same goals, and many relations the same states.
    every = sorted({tuple(sorted(held[relation])) for relation in relations})
    goals_of_all = sorted({relation[state] for state, relation in value})
    return all([any([goal in states for goal in goals]) for goals in goals_of_all for states in every])
