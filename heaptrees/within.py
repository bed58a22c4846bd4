"""Whether a judge is within another one: shown by a paper, or denied by a least tree."""

from heaptrees.errors import NoFit, TooMany
from heaptrees.judges import class_rows, classes_with
from heaptrees.kinds import is_whole_within
from heaptrees.trees import told_form

# A told tree has no more parts: one of many millions would take all memory and end the program.
MOST_PARTS = 100000


def within_told(one, other):
    """("within", paper), or ("not", a least tree that the one lets by and the other does not)."""
    growth = Growth(one, other)
    pair = growth.next_pair()
    while pair is not None:
        if _denies(one, other, pair):
            return ("not", growth.tree_of(pair))
        pair = growth.next_pair()
    return ("within", sorted(growth.pairs))


def within_shows(one, other, paper):
    """Whether the paper, any list of tuples of two whole numbers, shows that one is within."""
    heaps = Heaps(one, other)
    if not _is_paper(one, other, paper) or any([_denies(one, other, pair) for pair in paper]):
        return False
    for pair in paper:
        # Which heaps there are is all that counts, not what they weigh.
        heaps.put(pair, 0)
    return all([pair in paper for pair in heaps.pairs_above()])


def same_judges(one, other):
    """Whether each of the two is within the other."""
    growth = Growth(one, other)
    pair = growth.next_pair()
    while pair is not None:
        if (pair[0] in one[5]) != (pair[1] in other[5]):
            return False
        pair = growth.next_pair()
    return True


def _denies(one, other, pair):
    """Whether a tree of the pair is let by by the one and not by the other."""
    return pair[0] in one[5] and pair[1] not in other[5]


def _is_paper(one, other, thing):
    """Whether the thing is a list of tuples of states, sorted, each once."""
    if not isinstance(thing, list) or not all([_is_pair(one, other, pair) for pair in thing]):
        return False
    return all([low < high for low, high in zip(thing, thing[1:])])


def _is_pair(one, other, thing):
    """Whether the thing is a tuple of a state of the one and a state of the other."""
    if not isinstance(thing, tuple) or len(thing) != 2:
        return False
    return is_whole_within(thing[0], 0, one[1] - 1) and is_whole_within(thing[1], 0, other[1] - 1)


def _steps(judge, rows):
    """At the place of each tuple of classes, by state, the place behind one child more of it."""
    places = {row: place for place, row in enumerate(rows)}
    return [[places[classes_with(judge, row, state)] for state in range(judge[1])] for row in rows]


class Heaps:
    """The heaps of trees of some pairs of states, told apart by their classes by both judges.

    A heap is a tuple of two places, of its classes by the one and by the other among all tuples
    of classes; nothing else of it counts.
    """

    def __init__(self, one, other):
        if one[0] != other[0]:
            raise NoFit("the two judges have unlike letters")
        one_rows = class_rows(one[1], one[2] + one[3])
        other_rows = class_rows(other[1], other[2] + other[3])
        self.one_steps = _steps(one, one_rows)
        self.other_steps = _steps(other, other_rows)
        # For each letter, the states told at the places of both.
        self.tables = [
            ([one[4][(letter, row)] for row in one_rows], [other[4][(letter, row)] for row in other_rows])
            for letter in one[0]
        ]
        # From each heap to its least weight, how many parts its trees have in all.
        self.weights = {(0, 0): 0}
        # From each heap but the empty one to the pair of a child and the heap without that child.
        self.last = {}

    def put(self, pair, size):
        """Put to each heap any number of trees of the pair, each of this size.

        In a heap nothing stands first: what was put ahead need not be put once more.
        """
        for heap in list(self.weights):
            lighter = heap
            heavier = self._behind(lighter, pair)
            weight = self.weights[lighter] + size
            while heavier not in self.weights or weight < self.weights[heavier]:
                self.weights[heavier] = weight
                self.last[heavier] = (pair, lighter)
                lighter = heavier
                heavier = self._behind(lighter, pair)
                weight += size

    def _behind(self, heap, pair):
        """The heap behind one tree more of the pair."""
        return (self.one_steps[heap[0]][pair[0]], self.other_steps[heap[1]][pair[1]])

    def pairs_above(self):
        """From each pair that a tree with one of the heaps has to (weight, letter's place, heap).

        The heap is a least one for the pair.
        """
        least = {}
        for place, (ones, others) in enumerate(self.tables):
            for heap, weight in self.weights.items():
                pair = (ones[heap[0]], others[heap[1]])
                if pair not in least or weight < least[pair][0]:
                    least[pair] = (weight, place, heap)
        return least


class Growth:
    """The pairs of states, the one's and the other's, that trees have: found one by one by size.

    A tree is greater than its children, so no tree of a pair that is not found yet is smaller
    than the least one over heaps of those that are.
    """

    def __init__(self, one, other):
        self.letters = one[0]
        self.heaps = Heaps(one, other)
        # From each pair found, in order, to the letter and the heap of a least tree.
        self.pairs = {}

    def next_pair(self):
        """The next pair, now found; or None."""
        above = self.heaps.pairs_above()
        rows = [(row[0], row[1], row[2], pair) for pair, row in above.items() if pair not in self.pairs]
        if not rows:
            return None
        weight, place, heap, pair = min(rows)
        self.pairs[pair] = (self.letters[place], heap)
        self.heaps.put(pair, weight + 1)
        return pair

    def tree_of(self, pair):
        """A least tree of the pair that was found last, in told form; or TooMany."""
        if self.heaps.weights[self.pairs[pair][1]] >= MOST_PARTS:
            raise TooMany("the least tree has too many parts to be told")
        trees = {}
        for found, (letter, heap) in self.pairs.items():
            trees[found] = (letter, self._children(heap, trees))
        # The told form makes each list anew, also those of one child in several places.
        return told_form(trees[pair])

    def _children(self, heap, trees):
        """The children of a least heap, by the trees of their pairs."""
        children = []
        while heap in self.heaps.last:
            pair, heap = self.heaps.last[heap]
            children.append(trees[pair])
        return children
