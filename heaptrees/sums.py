"""Kinds of trees told by conditions on sums of how many children have each state."""

from math import lcm

from heaptrees.judges import MOST_STATES, states_upward, table_made
from heaptrees.kinds import is_whole_within

MOST_WITHIN = 4
MOST_WEIGHT = 4
MOST_BOUND = 4
MOST_M = 4

# How many things stand in the tuple of a condition that is made of other ones.
MADE_OF_OTHERS = {"not": 2, "both": 3, "either": 3}


def is_condition(thing, s):
    """Whether the thing is a condition over s states; both may be of any kind."""
    return is_whole_within(s, 1, MOST_STATES) and _is_condition_of(thing, s, MOST_WITHIN)


def _is_condition_of(thing, s, levels):
    """Whether the thing is a condition with at most so many levels within one another."""
    # The levels are asked first, so that no depth of what is handed in is followed down.
    if levels == 0 or not isinstance(thing, tuple) or not thing:
        return False
    word = thing[0]
    if not isinstance(word, str):
        return False
    if word == "least":
        return _is_least(thing, s)
    if word == "turns":
        return _is_turns(thing, s)
    if len(thing) != MADE_OF_OTHERS.get(word, 0):
        return False
    return all([_is_condition_of(part, s, levels - 1) for part in thing[1:]])


def _is_least(thing, s):
    """Whether the tuple that begins with "least" is a condition."""
    if len(thing) != 3:
        return False
    return _are_weights(thing[1], s) and is_whole_within(thing[2], 0, MOST_BOUND)


def _is_turns(thing, s):
    """Whether the tuple that begins with "turns" is a condition."""
    if len(thing) != 4 or not _are_weights(thing[1], s):
        return False
    return is_whole_within(thing[2], 1, MOST_M) and is_whole_within(thing[3], 0, thing[2] - 1)


def _are_weights(thing, s):
    """Whether the thing is a list of s weights."""
    if not isinstance(thing, list) or len(thing) != s:
        return False
    return all([is_whole_within(weight, 0, MOST_WEIGHT) for weight in thing])


def condition_holds(condition, numbers):
    """Whether the condition holds where so many children have each state."""
    word = condition[0]
    if word == "least":
        return _weighed(condition[1], numbers) >= condition[2]
    if word == "turns":
        return (_weighed(condition[1], numbers) - condition[3]) % condition[2] == 0
    if word == "not":
        return not condition_holds(condition[1], numbers)
    if word == "both":
        return condition_holds(condition[1], numbers) and condition_holds(condition[2], numbers)
    return condition_holds(condition[1], numbers) or condition_holds(condition[2], numbers)


def _weighed(weights, numbers):
    """The sum of the weights times the numbers."""
    return sum([weight * number for weight, number in zip(weights, numbers)])


def _state_by_rows(rows, numbers):
    """The state of the first of a letter's rows whose condition holds."""
    for condition, state in rows[:-1]:
        if condition_holds(condition, numbers):
            return state
    # The last condition is one that always holds.
    return rows[-1][1]


def state_by_rules(rules, tree):
    """The state of the tree by the rules."""
    letters, states, rows, _ = rules
    told = states_upward(
        tree, letters, states, lambda letter, numbers: _state_by_rows(rows[letter], numbers)
    )
    return told[-1]


def rules_let_by(rules, tree):
    """Whether the rules let the tree by."""
    return state_by_rules(rules, tree) in rules[3]


def judge_made(rules):
    """The judge that gives each tree the state that the rules give, or TooMany."""
    letters, states, rows, good = rules
    few, turn = _few_and_turn([condition for letter in letters for condition, _ in rows[letter]])
    table = table_made(
        letters, states, few, turn, lambda letter, row: _state_by_rows(rows[letter], list(row))
    )
    return (letters, states, few, turn, table, list(good))


def _few_and_turn(conditions):
    """The greatest bound of the conditions, and the least common multiple of all their m."""
    few = 0
    turn = 1
    plain_ones = [plain for condition in conditions for plain in _plain_ones(condition)]
    for row in plain_ones:
        if row[0] == "least":
            few = max(few, row[2])
        else:
            turn = lcm(turn, row[2])
    return (few, turn)


def _plain_ones(condition):
    """The "least" and "turns" conditions of which the condition is made, perhaps it alone."""
    if condition[0] not in MADE_OF_OTHERS:
        return [condition]
    return [plain for part in condition[1:] for plain in _plain_ones(part)]
