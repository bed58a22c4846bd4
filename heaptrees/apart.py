"""States told apart: by surroundings that part two of them, or shown alike by a paper."""

from heaptrees.coming import are_only_of, least_trees, states_that_come
from heaptrees.errors import NoNumber
from heaptrees.judges import are_rising_states, check_letters, classes_with, state_above, state_of
from heaptrees.kinds import is_whole
from heaptrees.trees import check_surrounding, copied_tree


def parting_surrounding(judge, p, q):
    """A surrounding that parts the two states, of the fewest tuples, or None where they are alike."""
    _check_comes(judge, p)
    _check_comes(judge, q)
    keys = _keys_that_come(judge)
    way = _parting_way(judge, keys, p, q)
    if way is None:
        return None
    trees = least_trees(judge)
    return [_surrounding_row(trees, keys[place]) for place in way]


def _check_comes(judge, thing):
    """Refuse with NoNumber what is no state that comes."""
    if not is_whole(thing) or thing not in states_that_come(judge):
        raise NoNumber("what is handed in is no state that comes")


def _keys_that_come(judge):
    """The tuples (letter, classes) of the table that parts of trees have."""
    coming = states_that_come(judge)
    return sorted([key for key in judge[4] if are_only_of(key[1], coming)])


def _states_behind(judge, keys):
    """From each state that comes to the states, key by key, behind one child more of it."""
    return {
        state: [judge[4][(letter, classes_with(judge, row, state))] for letter, row in keys]
        for state in states_that_come(judge)
    }


def _parting_way(judge, keys, p, q):
    """The fewest places among the keys that lead one after the other to a parted pair, or None."""
    behind = _states_behind(judge, keys)
    level = {(p, q): []}
    seen = {(p, q): True}
    while level:
        following = {}
        for (one, other), way in level.items():
            if (one in judge[5]) != (other in judge[5]):
                return way
            for place, pair in enumerate(zip(behind[one], behind[other])):
                if pair not in seen:
                    seen[pair] = True
                    following[pair] = [*way, place]
        level = following
    return None


def _surrounding_row(trees, key):
    """A tuple of a surrounding: the letter, and as many children of each state as the classes."""
    letter, row = key
    # A class is the least of the numbers of that class.
    children = [copied_tree(trees[state]) for state, many in enumerate(row) for _ in range(many)]
    return (letter, children)


def state_behind(judge, surrounding, p):
    """The state of a tree of the state p put into the surrounding."""
    _check_comes(judge, p)
    check_surrounding(surrounding)
    check_letters(surrounding, judge[0])
    rows = [(letter, [state_of(judge, child) for child in children]) for letter, children in surrounding]
    state = p
    for letter, below in rows:
        state = state_above(judge, letter, [*below, state])
    return state


def alike_paper(judge):
    """The coarsest paper that states are alike."""
    behind = _states_behind(judge, _keys_that_come(judge))
    groups = _parted([list(behind)], {state: state in judge[5] for state in behind})
    finer = _parted_behind(groups, behind)
    while len(finer) > len(groups):
        groups = finer
        finer = _parted_behind(groups, behind)
    return groups


def _parted_behind(groups, behind):
    """The groups parted where states behind one child more are in unlike groups."""
    group_at = _group_at(groups)
    return _parted(groups, {state: [group_at[one] for one in row] for state, row in behind.items()})


def _parted(groups, marks):
    """The groups parted by the marks of their states, in the order of their first ones."""
    parts = [
        [state for state in group if marks[state] == mark]
        for group in groups
        for mark in _each_once([marks[state] for state in group])
    ]
    return sorted(parts)


def _each_once(row):
    """The things of the row, each once."""
    return [thing for place, thing in enumerate(row) if thing not in row[:place]]


def _group_at(groups):
    """From each state to the place of its group."""
    return {state: place for place, group in enumerate(groups) for state in group}


def alike_shows(judge, paper):
    """Whether the paper, any list of lists of whole numbers, shows that states are alike."""
    behind = _states_behind(judge, _keys_that_come(judge))
    if not _is_paper(judge, paper) or sorted([state for group in paper for state in group]) != list(behind):
        return False
    group_at = _group_at(paper)
    marks = {
        state: (state in judge[5], [group_at[one] for one in row]) for state, row in behind.items()
    }
    return all([marks[state] == marks[group[0]] for group in paper for state in group])


def _is_paper(judge, thing):
    """Whether the thing is a list of lists of states, rising, none empty, by their first ones."""
    if not isinstance(thing, list) or not all([are_rising_states(group, judge[1]) for group in thing]):
        return False
    return all([bool(group) for group in thing]) and thing == sorted(thing)
