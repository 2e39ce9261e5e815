"""Safe pairs of a state and pending letters, and the tables of converters."""

from leastahead.errors import NotEnough, TooMany
from leastahead.judges import input_count, is_number_below, is_tuple_of_length, is_tuple_of_numbers, output_count

MOST_PAIRS = 20000


def count_of_words(judge, ahead):
    """Return how many words of `ahead` letters there are."""
    many = 1
    for step in range(ahead):
        many *= input_count(judge)
    return many


def checked_count_of_words(judge, ahead):
    """Return how many words of `ahead` letters there are, if there are not too many pairs."""
    many = count_of_words(judge, ahead)
    if len(judge) * many > MOST_PAIRS:
        raise TooMany(MOST_PAIRS)
    return many


def words_of_length(judge, length):
    """Return the list of all words of this length, in ascending order."""
    words = [()]
    for step in range(length):
        words = [word + (x,) for word in words for x in range(input_count(judge))]
    return words


# Below, a word is its number among all words of its length, in ascending order. If there are `many` words
# of `ahead` letters, a word of one letter more is word[0] * many + word[1:], and pending * letters + x.


def safe_answers(row, safe, rest):
    """Return the ascending list of the output letters of the row that lead to a safe pair with the word rest."""
    return [y for y, entry in enumerate(row) if entry is not None and safe[entry][rest]]


def drop_unsafe(judge, safe, many, word):
    """Take away the pairs that have no safe answer for this word of one letter more. Return whether there
    were any."""
    pending = word // input_count(judge)
    dropped = False
    for state, rows in enumerate(judge):
        if safe[state][pending] and not safe_answers(rows[word // many], safe, word % many):
            safe[state][pending] = False
            dropped = True
    return dropped


def safe_lists(judge, many):
    """Return for each state the list that tells for each of the many pending words whether the pair is safe."""
    letters = input_count(judge)
    safe = [[True] * many for state in judge]
    # The words for which some pair must be looked at again: at first all of them.
    changed = list(range(many))
    while changed:
        rest = changed.pop()
        for first in range(letters):
            word = first * many + rest
            if drop_unsafe(judge, safe, many, word):
                changed.append(word // letters)
    return safe


def safe_pairs(judge, ahead):
    """Return the ascending tuple of all safe pairs."""
    safe = safe_lists(judge, checked_count_of_words(judge, ahead))
    words = words_of_length(judge, ahead)
    return tuple([(state, word) for state, flags in enumerate(safe) for word, flag in zip(words, flags) if flag])


def is_enough(judge, ahead):
    """Return whether the look-ahead is enough."""
    return all(safe_lists(judge, checked_count_of_words(judge, ahead))[0])


def least_answers(judge, safe, many, state, pending):
    """Return for each input letter the least answer that leads from a safe pair to a safe pair."""
    answers = []
    for x in range(input_count(judge)):
        word = pending * input_count(judge) + x
        answers.append(min(safe_answers(judge[state][word // many], safe, word % many)))
    return tuple(answers)


def table_for(judge, ahead):
    """Return the table with one row for each safe pair and the least answers."""
    many = checked_count_of_words(judge, ahead)
    safe = safe_lists(judge, many)
    if not all(safe[0]):
        raise NotEnough(ahead)
    words = words_of_length(judge, ahead)
    table = []
    for state in range(len(judge)):
        for pending, word in enumerate(words):
            if safe[state][pending]:
                table.append((state, word, least_answers(judge, safe, many, state, pending)))
    return tuple(table)


def is_word_of_length(value, letters, length):
    """Return whether any value is a tuple of this length of integers from 0 to letters - 1."""
    return is_tuple_of_numbers(value, letters) and len(value) == length


def is_table_row(judge, ahead, value):
    """Return whether any value has the form of a row of a table."""
    if not is_tuple_of_length(value, 3):
        return False
    state, pending, answers = value
    if not is_number_below(state, len(judge)) or not is_word_of_length(pending, input_count(judge), ahead):
        return False
    return is_word_of_length(answers, output_count(judge), input_count(judge))


def is_ascending_table(table):
    """Return whether the rows are ascending, no two with the same state and pending."""
    return all([row[:2] < later[:2] for row, later in zip(table, table[1:])])


def answers_of_pairs(table):
    """Return a dict that has for each pair with a row the answers of this row."""
    return {(state, pending): answers for state, pending, answers in table}


def next_pair(judge, pair, x, y):
    """Return the pair behind input letter x and answer y, with None as its state if the answer is refused."""
    state, pending = pair
    word = pending + (x,)
    return (judge[state][word[0]][y], word[1:])


def next_pairs(judge, pair, answers):
    """Return the list of the pairs to which these answers lead."""
    return [next_pair(judge, pair, x, y) for x, y in enumerate(answers)]


def is_closed_table(judge, table):
    """Return whether each answer of each row is allowed and leads to a row."""
    rows = answers_of_pairs(table)
    return all([following in rows for pair in rows for following in next_pairs(judge, pair, rows[pair])])


def shows_table(judge, ahead, value):
    """Return whether any value is a table."""
    if not isinstance(value, tuple) or not all([is_table_row(judge, ahead, row) for row in value]):
        return False
    if not is_ascending_table(value):
        return False
    # Rows of the start have different words, so it is enough to count them.
    if len([row for row in value if row[0] == 0]) != count_of_words(judge, ahead):
        return False
    return is_closed_table(judge, value)


def used_rows(judge, ahead, table):
    """Return the table with those rows alone to which its answers lead from the rows of the start."""
    rows = answers_of_pairs(table)
    used = [pair for pair in rows if pair[0] == 0]
    met = {pair: True for pair in used}
    done = 0
    while done < len(used):
        pair = used[done]
        done += 1
        for following in next_pairs(judge, pair, rows[pair]):
            if following not in met:
                met[following] = True
                used.append(following)
    return tuple([row for row in table if row[:2] in met])
