"""What comes: the states that some tree has, least trees of them, papers that none is let by."""

from heaptrees.judges import are_rising_states
from heaptrees.trees import from_heap


def states_that_come(judge):
    """The states that some tree has, rising."""
    return sorted([row[3] for row in _least_rows(judge)])


def least_trees(judge):
    """A least tree, by size, of each state that comes."""
    trees = {}
    for _, letter, classes, state in _least_rows(judge):
        heap = [(trees[below], many) for below, many in enumerate(classes) if many > 0]
        # Each tree is made anew from the heap: no list of one is a list of another.
        trees[state] = from_heap(letter, heap)
    return {state: trees[state] for state in sorted(trees)}


def _least_rows(judge):
    """A tuple (size, letter, classes, state) of a least tree of each state that comes, by size."""
    sizes = {}
    rows = []
    row = _next_least_row(judge, sizes)
    while row is not None:
        rows.append(row)
        sizes[row[3]] = row[0]
        row = _next_least_row(judge, sizes)
    return rows


def _next_least_row(judge, sizes):
    """The least row of a state that has no size yet, over states that have one; or None.

    A tree is greater than its children, so no tree of the row's state, found or not, is smaller.
    """
    rows = [
        (_least_size(classes, sizes), letter, classes, state)
        for (letter, classes), state in judge[4].items()
        if state not in sizes and are_only_of(classes, sizes)
    ]
    return min(rows, default=None)


def _least_size(classes, sizes):
    """The least size of a tree whose children are of these classes, and as great as told."""
    # A class is the least of the numbers of that class.
    return 1 + sum([many * sizes[state] for state, many in enumerate(classes) if many > 0])


def are_only_of(classes, states):
    """Whether the classes are 0 of all other states."""
    return all([many == 0 or state in states for state, many in enumerate(classes)])


def none_paper(judge):
    """A paper that the judge lets no tree by, or None where it lets one by."""
    paper = states_that_come(judge)
    return None if _has_good(judge, paper) else paper


def _has_good(judge, states):
    """Whether a good state of the judge is among the states."""
    return any([state in states for state in judge[5]])


def none_shows(judge, paper):
    """Whether the paper, any list of whole numbers, shows that the judge lets no tree by."""
    if not are_rising_states(paper, judge[1]) or _has_good(judge, paper):
        return False
    return all([
        state in paper
        for (_, classes), state in judge[4].items()
        if are_only_of(classes, paper)
    ])
