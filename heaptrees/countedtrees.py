"""Trees counted by sizes without going through them, and all small ones told."""

from math import comb

from heaptrees.errors import NoNumber, TooMany
from heaptrees.judges import class_of, state_by_numbers
from heaptrees.kinds import is_whole_within
from heaptrees.texts import read_tree
from heaptrees.trees import written_part

MOST_COUNTED = 24
MOST_TOLD_SIZE = 7
MOST_TOLD = 2000


def count_of(judge, size, state):
    """How many trees, in told form, of the size have the state."""
    _check_size(size, MOST_COUNTED)
    if not is_whole_within(state, 0, judge[1] - 1):
        raise NoNumber("what is handed in is no state")
    return _counts(judge, size)[size][state]


def count_let_by(judge, size):
    """How many trees, in told form, of the size are let by."""
    _check_size(size, MOST_COUNTED)
    return _good_ones(judge, _counts(judge, size)[size])


def _check_size(thing, most):
    """Refuse with NoNumber what is no size from 1 to the most."""
    if not is_whole_within(thing, 1, most):
        raise NoNumber("what is handed in is no size that is due")


def _good_ones(judge, numbers):
    """The sum of the good states' numbers."""
    return sum([numbers[state] for state in judge[5]])


def _counts(judge, most):
    """At the place of each size up to the most, by state, how many trees there are.

    A tree is a letter and a heap of smaller ones; a heap is one of each state's trees alone, put
    together, and of these nothing but the weight, all parts in all, and the class counts.
    """
    _, states, few, turn, table, _ = judge
    counts = [[0] * states]
    alone = [_empty_heaps(most, few + turn) for _ in range(states)]
    # At each place the heaps, by weight, of trees of so many of the first states.
    joined = [[] for _ in range(states + 1)]
    for size in range(1, most + 1):
        joined[0].append({(): 1} if size == 1 else {})
        for state, heaps in enumerate(alone):
            joined[state + 1].append(_heaps_joined(joined[state], heaps, size - 1))
        found = [0] * states
        for (_, row), state in table.items():
            found[state] += joined[states][size - 1].get(row, 0)
        counts.append(found)
        alone = [_with_trees(judge, heaps, size, many) for heaps, many in zip(alone, found)]
    return counts


def _empty_heaps(most, classes):
    """By weight below the most, then by class, how many heaps of no trees there are."""
    rows = [[0] * classes for _ in range(most)]
    rows[0][0] = 1
    return rows


def _with_trees(judge, heaps, size, many):
    """The heaps of one state's trees, where there are so many more trees of this size."""
    if many == 0:
        return heaps
    told = [[0] * len(row) for row in heaps]
    for weight, row in enumerate(heaps):
        for more in range((len(heaps) - 1 - weight) // size + 1):
            # So many of them are put to a heap, one perhaps several times.
            ways = comb(many + more - 1, more)
            for number, ahead in enumerate(row):
                place = class_of(number + more, judge[2], judge[3])
                told[weight + more * size][place] += ahead * ways
    return told


def _heaps_joined(joined, heaps, weight):
    """From tuples of classes to how many heaps of the weight, of one state more, have them."""
    told = {}
    for part in range(weight + 1):
        for row, many in joined[weight - part].items():
            for number, ways in enumerate(heaps[part]):
                if ways > 0:
                    key = (*row, number)
                    told[key] = told.get(key, 0) + many * ways
    return told


def trees_let_by(judge, size):
    """All trees in told form of the size that are let by, sorted by their writings."""
    _check_size(size, MOST_TOLD_SIZE)
    counts = _counts(judge, size)
    if _good_ones(judge, counts[size]) > MOST_TOLD:
        raise TooMany("more than two thousand trees are let by")
    kept = {}
    texts = [text for state in judge[5] for text in _writings(judge, counts, size, state, kept)]
    return [read_tree(text) for text in sorted(texts)]


def _writings(judge, counts, size, state, kept):
    """The writings of all trees of the size that have the state, kept for who asks again.

    Each of them may stand in a tree that is told, so they are no more than those.
    """
    if (size, state) not in kept:
        texts = []
        for shape in _shapes(counts, size - 1):
            letters = [letter for letter in judge[0] if _state_above(judge, letter, shape) == state]
            heaps = _heaps_of(judge, counts, shape, kept) if letters else []
            texts.extend([written_part(letter, sorted(heap)) for letter in letters for heap in heaps])
        kept[(size, state)] = texts
    return kept[(size, state)]


def _shapes(counts, weight):
    """All lists of tuples (size, state, how many), each of a kind of trees that there are."""
    shapes = [(0, [])]
    for size in range(1, weight + 1):
        for state, many_trees in enumerate(counts[size]):
            if many_trees > 0:
                shapes = [
                    (ahead + size * many, [*shape, (size, state, many)] if many > 0 else shape)
                    for ahead, shape in shapes
                    for many in range((weight - ahead) // size + 1)
                ]
    return [shape for ahead, shape in shapes if ahead == weight]


def _state_above(judge, letter, shape):
    """The state of a part with the letter above children as in the shape."""
    numbers = [sum([many for _, state, many in shape if state == one]) for one in range(judge[1])]
    return state_by_numbers(judge, letter, numbers)


def _heaps_of(judge, counts, shape, kept):
    """All heaps of the shape, each a list of writings."""
    heaps = [[]]
    for size, state, many in shape:
        rows = _chosen(_writings(judge, counts, size, state, kept), many)
        heaps = [[*heap, *row] for heap in heaps for row in rows]
    return heaps


def _chosen(texts, many):
    """All ways to choose so many of the texts, one perhaps several times, in no order."""
    ways = [(0, [])]
    for _ in range(many):
        ways = [(place, [*row, texts[place]]) for first, row in ways for place in range(first, len(texts))]
    return [row for _, row in ways]
