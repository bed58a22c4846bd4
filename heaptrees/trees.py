"""Trees: what is one, their sizes, told forms, writings and heaps.

No function here calls itself: trees that were told may be handed in again and be put
together to deeper ones, deeper than calls may stand within one another.
"""

from heaptrees.errors import NoTree
from heaptrees.kinds import is_letter, is_whole


def is_tree(thing):
    """Whether the thing, of any kind, is a tree."""
    waiting = [thing]
    while waiting:
        part = waiting.pop()
        if not _is_part(part):
            return False
        waiting.extend(part[1])
    return True


def _is_part(thing):
    """Whether the thing is a tree, whatever stands in its list of children."""
    if not isinstance(thing, tuple) or len(thing) != 2:
        return False
    return is_letter(thing[0]) and isinstance(thing[1], list)


def check_tree(thing):
    """Refuse with NoTree what is no tree."""
    if not is_tree(thing):
        raise NoTree("what is handed in is no tree")


def parts_upward(tree):
    """The tree's parts, each behind those of its children, these as they stand; or NoTree."""
    check_tree(tree)
    parts = []
    waiting = [tree]
    while waiting:
        part = waiting.pop()
        parts.append(part)
        waiting.extend(part[1])
    # The walk goes down from the last child to the first; turned round it is the order told.
    return parts[::-1]


def size_of(tree):
    """How many parts the tree has."""
    return len(parts_upward(tree))


def built_upward(tree, made):
    """What made(letter, what it made of each child) makes of the tree, from the leaves up; or NoTree."""
    waiting = []
    for letter, children in parts_upward(tree):
        first = len(waiting) - len(children)
        below = waiting[first:]
        del waiting[first:]
        waiting.append(made(letter, below))
    return waiting[0]


def copied_tree(tree):
    """The tree with its children as they stand, each list of them a new one; or NoTree."""
    return built_upward(tree, lambda letter, below: (letter, below))


def check_surrounding(thing):
    """Refuse with NoTree what is no surrounding, each of whose tuples has the form of a tree."""
    if not isinstance(thing, list) or not all([is_tree(row) for row in thing]):
        raise NoTree("what is handed in is no surrounding")


def depth_of(tree):
    """1 for a tree without children, else one more than the greatest depth of a child."""
    check_tree(tree)
    depth = 0
    level = [tree]
    while level:
        depth += 1
        level = [child for part in level for child in part[1]]
    return depth


def _written_and_told(tree):
    """A tuple of the tree's writing and its told form."""
    return built_upward(tree, _joined)


def _joined(letter, below):
    """The writing and told form of a part, from those of its children."""
    # By the writings alone: where two are equal, Python would compare the trees, call in call.
    rows = sorted(below, key=lambda row: row[0])
    return (written_part(letter, [row[0] for row in rows]), (letter, [row[1] for row in rows]))


def written_part(letter, texts):
    """The writing of a part, from those of its children, sorted."""
    if not texts:
        return letter
    written = "".join(texts)
    return f"{letter}({written})"


def told_form(tree):
    """The tree with the children of each part sorted by their writings."""
    return _written_and_told(tree)[1]


def written_tree(tree):
    """The writing of the tree's told form."""
    return _written_and_told(tree)[0]


def are_same(one, other):
    """Whether the two trees are the same but for the order of children."""
    return written_tree(one) == written_tree(other)


def heap_of(tree):
    """The tree's unlike children in told form, each with how often it stands there."""
    check_tree(tree)
    rows = sorted([_written_and_told(child) for child in tree[1]], key=lambda row: row[0])
    heap = []
    last = None
    for written, child in rows:
        if written == last:
            heap[-1] = (heap[-1][0], heap[-1][1] + 1)
        else:
            heap.append((child, 1))
        last = written
    return heap


def from_heap(letter, heap):
    """The tree, in told form, of a letter and a list of tuples (child, how often)."""
    if not is_letter(letter):
        raise NoTree("the letter is no small letter")
    if not isinstance(heap, list) or not all([_is_heap_row(row) for row in heap]):
        raise NoTree("the heap is no list of tuples of a tree and a number from 1 on")
    # One child many times is a tree of its own at each place: the told form makes each anew.
    return told_form((letter, [child for child, many in heap for _ in range(many)]))


def _is_heap_row(thing):
    """Whether the thing is a tuple of a tree and a whole number from 1 on."""
    if not isinstance(thing, tuple) or len(thing) != 2:
        return False
    return is_tree(thing[0]) and is_whole(thing[1]) and thing[1] >= 1
