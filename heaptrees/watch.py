"""Watched trees: parts are put and taken away, and told is which have another state then."""

from heaptrees.errors import NoNumber
from heaptrees.judges import check_letters, copied_judge, state_above
from heaptrees.kinds import is_whole_within
from heaptrees.trees import built_upward, parts_upward


class Part:
    """A part of a watched tree, with its state."""

    def __init__(self, judge, letter, below):
        self.letter = letter
        self.below = below
        self.state = state_above(judge, letter, [part.state for part in below])


class Watch:
    """A judge and a tree that changes; the tree's parts are named by lists of places."""

    def __init__(self, judge, tree):
        self._judge = copied_judge(judge)
        self._top = _watched(self._judge, tree)

    def put(self, names, child):
        """Put the child behind the others of a part; the names of the parts of another state now."""
        way = self._way(names)
        way[-1].below.append(_watched(self._judge, child))
        return self._changed(way, names)

    def take(self, names):
        """Take a part away; the names of the parts of another state now."""
        way = self._way(names)
        if len(way) == 1:
            raise NoNumber("the tree itself is not taken away")
        way.pop()
        below = way[-1].below
        del below[names[-1]]
        return self._changed(way, names)

    def tree(self):
        """The tree, with its children in the order in which they came."""
        return _unwatched(self._top)

    def state_at(self, names):
        """The state of a part."""
        return self._way(names)[-1].state

    def good(self):
        """Whether the tree is let by."""
        return self._top.state in self._judge[5]

    def _way(self, names):
        """The parts from the tree down to the one that is named; or NoNumber."""
        if not isinstance(names, list):
            raise NoNumber("a part is named by a list of places")
        way = [self._top]
        for place in names:
            below = way[-1].below
            if not is_whole_within(place, 0, len(below) - 1):
                raise NoNumber("no part stands at such a place")
            way.append(below[place])
        return way

    def _changed(self, way, names):
        """Work out the states on the way anew; the names of the parts of another state now."""
        told = []
        for depth in reversed(range(len(way))):
            part = way[depth]
            state = state_above(self._judge, part.letter, [child.state for child in part.below])
            # What stands above hangs on nothing but the states below it.
            if state == part.state:
                break
            part.state = state
            told.append(names[:depth])
        return told[::-1]


def _watched(judge, tree):
    """The tree as parts with states; or NoTree, NoLetter."""
    check_letters(parts_upward(tree), judge[0])
    return built_upward(tree, lambda letter, below: Part(judge, letter, below))


def _unwatched(top):
    """The tree that the part and those below it are."""
    parts = []
    waiting = [top]
    while waiting:
        part = waiting.pop()
        parts.append(part)
        waiting.extend(part.below)
    told = []
    for part in reversed(parts):
        first = len(told) - len(part.below)
        children = told[first:]
        del told[first:]
        told.append((part.letter, children))
    return told[0]
