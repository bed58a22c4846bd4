"""Judges: what is one, and what they tell of trees."""

from heaptrees.errors import NoLetter, TooMany
from heaptrees.kinds import is_letter, is_whole_within
from heaptrees.trees import built_upward, parts_upward

MOST_STATES = 6
MOST_FEW = 4
MOST_TURN = 4
MOST_TUPLES = 600


def is_judge(thing):
    """Whether the thing, of any kind, is a judge."""
    if not isinstance(thing, tuple) or len(thing) != 6:
        return False
    letters, states, few, turn, table, good = thing
    if not may_have_table(letters, states, few, turn):
        return False
    return _is_table(table, letters, states, few + turn) and are_rising_states(good, states)


def may_have_table(letters, states, few, turn):
    """Whether things of any kind are letters and numbers of a judge, with not too many tuples."""
    if not are_letters(letters) or not is_whole_within(states, 1, MOST_STATES):
        return False
    if not is_whole_within(few, 0, MOST_FEW) or not is_whole_within(turn, 1, MOST_TURN):
        return False
    return tuples_due(letters, states, few + turn) <= MOST_TUPLES


def are_letters(thing):
    """Whether the thing is a text of unlike small letters, one at least, rising."""
    if not isinstance(thing, str) or not thing:
        return False
    return all([is_letter(sign) for sign in thing]) and _rises(thing)


def are_rising_states(thing, states):
    """Whether the thing is a list of states, rising, each once, perhaps none."""
    if not isinstance(thing, list):
        return False
    return all([is_whole_within(state, 0, states - 1) for state in thing]) and _rises(thing)


def _rises(row):
    """Whether each thing of the row is greater than the one ahead of it."""
    return all([low < high for low, high in zip(row, row[1:])])


def tuples_due(letters, states, classes):
    """How many tuples the table of a judge has, classes being how many classes there are."""
    many = len(letters)
    for _ in range(states):
        many = many * classes
    return many


def _is_table(thing, letters, states, classes):
    """Whether the thing is a table that has just the tuples due."""
    if not isinstance(thing, dict) or len(thing) != tuples_due(letters, states, classes):
        return False
    # Unlike keys that are each one of those due, and as many as are due, are all of them.
    for key, state in thing.items():
        if not _is_key(key, letters, states, classes) or not is_whole_within(state, 0, states - 1):
            return False
    return True


def _is_key(thing, letters, states, classes):
    """Whether the thing is a tuple of a letter and as many classes as there are states."""
    if not isinstance(thing, tuple) or len(thing) != 2:
        return False
    letter, row = thing
    if not is_letter(letter) or letter not in letters:
        return False
    if not isinstance(row, tuple) or len(row) != states:
        return False
    return all([is_whole_within(number, 0, classes - 1) for number in row])


def class_of(number, few, turn):
    """The class of a number from 0 on: itself where it is low, else its place in the turn."""
    if number < few + turn:
        return number
    return few + (number - few) % turn


def class_rows(states, classes):
    """All tuples of as many classes as there are states, rising."""
    rows = [()]
    for _ in range(states):
        rows = [(*row, number) for row in rows for number in range(classes)]
    return rows


def keys_due(letters, states, classes):
    """The tuples (letter, classes) that a table has, in order."""
    rows = class_rows(states, classes)
    return [(letter, row) for letter in letters for row in rows]


def table_made(letters, states, few, turn, state_at):
    """A table that tells state_at(letter, classes); TooMany where it or the turn is too great."""
    if turn > MOST_TURN:
        raise TooMany("the judge would have a turn of more than four")
    if tuples_due(letters, states, few + turn) > MOST_TUPLES:
        raise TooMany("the judge's table would have more than six hundred tuples")
    keys = keys_due(letters, states, few + turn)
    return {(letter, row): state_at(letter, row) for letter, row in keys}


def copied_judge(judge):
    """The judge with a table and a list of good states of its own."""
    letters, states, few, turn, table, good = judge
    return (letters, states, few, turn, {key: state for key, state in table.items()}, list(good))


def classes_with(judge, row, state):
    """The classes behind one child more of the state."""
    number = class_of(row[state] + 1, judge[2], judge[3])
    return row[:state] + (number,) + row[state + 1:]


def state_by_numbers(judge, letter, numbers):
    """The state of a part with this letter, from how many of its children have each state."""
    row = [class_of(number, judge[2], judge[3]) for number in numbers]
    return judge[4][(letter, tuple(row))]


def state_above(judge, letter, below):
    """The state of a part with this letter, from the states of its children."""
    return state_by_numbers(judge, letter, _numbers(below, judge[1]))


def _numbers(below, states):
    """How many of the children's states are each state."""
    return [below.count(state) for state in range(states)]


def check_letters(parts, letters):
    """Refuse with NoLetter parts of which one has a letter that is none of these."""
    for letter, _ in parts:
        if letter not in letters:
            raise NoLetter("the tree has a letter of which no state is told")


def states_upward(tree, letters, states, state_at):
    """The states of all parts, each behind those of its children, these as they stand.

    A part's is state_at(letter, how many of its children have each state); or NoTree, NoLetter.
    """
    check_letters(parts_upward(tree), letters)
    told = []

    def next_state(letter, below):
        told.append(state_at(letter, _numbers(below, states)))
        return told[-1]

    built_upward(tree, next_state)
    return told


def part_states(judge, tree):
    """The states of all parts, each behind those of its children, these as they stand."""
    return states_upward(
        tree, judge[0], judge[1], lambda letter, numbers: state_by_numbers(judge, letter, numbers)
    )


def state_of(judge, tree):
    """The state of the tree."""
    return part_states(judge, tree)[-1]


def lets_by(judge, tree):
    """Whether the judge lets the tree by."""
    return state_of(judge, tree) in judge[5]
