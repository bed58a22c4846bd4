"""What several test files use: trees and judges to ask about, and what is none."""

from copy import deepcopy
from itertools import product
from random import Random


def leaf(letter):
    return (letter, [])


def row_of(letter, many):
    """A tree of so many parts, each the only child of the one above."""
    tree = (letter, [])
    for _ in range(many - 1):
        tree = (letter, [tree])
    return tree


def nested(thing, depth, wrap):
    for _ in range(depth):
        thing = wrap(thing)
    return thing


def ordered_trees(size, letters):
    """Every tree of the size, each order of children for itself."""
    return [
        (letter, children)
        for letter in letters
        for children in ordered_forests(size - 1, letters)
    ]


def ordered_forests(size, letters):
    if size == 0:
        return [[]]
    return [
        [first, *rest]
        for part in range(1, size + 1)
        for first, rest in product(ordered_trees(part, letters), ordered_forests(size - part, letters))
    ]


def trees_up_to(size, letters):
    return [tree for many in range(1, size + 1) for tree in ordered_trees(many, letters)]


def told_trees(size, letters):
    """Every tree of the size, once for each of those that are the same but for order."""
    return list({written(tree): tree for tree in ordered_trees(size, letters)}.values())


def wide_trees(letters):
    """Trees with up to sixty parts, most of them leaves side by side."""
    few = [*range(10), 19, 26]
    return [
        (letter, [*[leaf(letters[0])] * many, *[leaf(letters[-1])] * (many // 2), *[row_of(letters[-1], 2)] * less])
        for letter in letters
        for many in few
        for less in (0, 1, 3, 8)
    ]


def written(tree):
    """The writing of the tree's told form, word by word."""
    rows = sorted(written(child) for child in tree[1])
    return tree[0] + (f"({''.join(rows)})" if rows else "")


def judge_by(letters, states, few, turn, state, good):
    """A judge whose table tells state(letter, classes)."""
    table = {
        (letter, classes): state(letter, classes)
        for letter in letters
        for classes in product(range(few + turn), repeat=states)
    }
    return (letters, states, few, turn, table, good)


def chance_judge(seed, letters, states, few, turn):
    """A judge with any table and good states, the same for each seed."""
    chance = Random(seed)
    good = [state for state in range(states) if chance.randrange(2)]
    return judge_by(letters, states, few, turn, lambda letter, row: chance.randrange(states), good)


def changed(row, place, thing):
    """The tuple with the thing at the place."""
    return (*row[:place], thing, *row[place + 1:])


def class_by_words(number, few, turn):
    while number >= few + turn:
        number -= turn
    return number


def state_by_words(judge, tree):
    """[9] word by word."""
    below = [state_by_words(judge, child) for child in tree[1]]
    letters, states, few, turn, table, good = judge
    row = tuple(class_by_words(below.count(state), few, turn) for state in range(states))
    return table[tree[0], row]


def row_behind(judge, row, state):
    """The classes behind one child more of the state, number by number."""
    return tuple(
        class_by_words(number + (place == state), judge[2], judge[3]) for place, number in enumerate(row)
    )


def coming_by_words(judge):
    """The states that come, each of children whose states come."""
    letters, states, few, turn, table, good = judge
    coming = set()
    while True:
        found = {
            table[letter, row]
            for letter, row in product(letters, rows_of(judge, coming))
        }
        if found <= coming:
            return sorted(coming)
        coming |= found


def rows_of(judge, coming):
    """Each tuple of classes that heaps of trees with these states have."""
    classes = range(judge[2] + judge[3])
    return list(product(*[classes if state in coming else [0] for state in range(judge[1])]))


def parted_by_words(judge):
    """From each pair of unlike states that a surrounding parts to the fewest tuples of one."""
    coming = coming_by_words(judge)
    pairs = [pair for pair in product(coming, repeat=2) if pair[0] != pair[1]]
    parted = {pair: 0 for pair in pairs if (pair[0] in judge[5]) != (pair[1] in judge[5])}
    behind = {
        state: [
            judge[4][letter, row_behind(judge, row, state)] for letter, row in product(judge[0], rows_of(judge, coming))
        ]
        for state in coming
    }
    many = 0
    while True:
        many += 1
        found = {
            (p, q): many
            for p, q in pairs
            if (p, q) not in parted and any(pair in parted for pair in zip(behind[p], behind[q]))
        }
        if not found:
            return parted
        parted.update(found)


def groups_by_words(judge):
    """[17], [18], [20]: the groups of alike states among those that come."""
    parted = parted_by_words(judge)
    groups = []
    for state in coming_by_words(judge):
        alike = [group for group in groups if (group[0], state) not in parted]
        if alike:
            alike[0].append(state)
        else:
            groups.append([state])
    return groups


def shuffled(seed, tree):
    """The tree with the children of each part in any order, the same for each seed."""
    chance = Random(seed)
    children = [shuffled(seed + place + 1, child) for place, child in enumerate(tree[1])]
    chance.shuffle(children)
    return (tree[0], children)


def grown_otherwise(seed, judge):
    """The judge with a table that is equal but grew in another order."""
    keys = list(judge[4])
    Random(seed).shuffle(keys)
    return changed(judge, 4, {key: judge[4][key] for key in keys})


def holders_within(thing):
    """Every list and dict within the thing, once for each place where it stands."""
    found = []
    waiting = [thing]
    while waiting:
        one = waiting.pop()
        if isinstance(one, (list, dict)):
            found.append(one)
        if isinstance(one, dict):
            waiting.extend(one.keys())
            waiting.extend(one.values())
        elif isinstance(one, (list, tuple)):
            waiting.extend(one)
    return found


def all_unlike(*things):
    """Whether no list or dict stands twice within the things."""
    found = [one for thing in things for one in holders_within(thing)]
    return len({id(one) for one in found}) == len(found)


def share_any(told, given):
    """Whether a list or dict within what was told is one within what was handed in."""
    ids = {id(one) for one in holders_within(given)}
    return any(id(one) in ids for one in holders_within(told))


def check_told_anew(case, ask, given):
    """[2]: what is asked twice is told twice the same, as the asker's own, with nothing of what was given."""
    told = [ask(), ask()]
    before = deepcopy(told[0])
    case.assertTrue(all_unlike(*told))
    case.assertFalse(share_any(told, given))
    for holder in holders_within(told[0]):
        holder.clear()
    # No assertEqual of what may be long: telling where two such differ takes it minutes.
    case.assertTrue(told[1] == before)
    case.assertTrue(ask() == before)


# Things of other kinds that are no tree, no letter and no judge.
OTHER_KINDS = [
    None, True, False, 0, 1, -1, 10 ** 29, "", "a", "ab", "a(b)", b"", b"a", [], [[]], ["a", []],
    (), ("a",), ([],), ("a", [], []), {}, {"a": []}, {("a", ()): 0}, set(), object(), int, len,
    range(2), nested([], 100, lambda x: [x]), nested((), 100, lambda x: (x,)),
    nested({}, 100, lambda x: {0: x}),
]

# Trees with one place otherwise, at the top; each of them is no tree within another one, too.
BAD_PARTS = [
    ["a", []], ("a",), ("a", [], None), ([], "a"), ("a", ()), ("a", (("a", []),)), ("a", None),
    ("a", {}), ("a", ""), ("a", "b"), ("a", 0), ("a", True), ("a", b""), ("a", ("b", [])),
    ("", []), ("ab", []), ("A", []), ("Z", []), ("`", []), ("{", []), ("0", []), (" ", []),
    ("a ", []), ("a\n", []), ("\n", []), ("\u00e4", []), ("\u0430", []), ("\uff41", []),
    (None, []), (True, []), (0, []), (97, []), (b"a", []), (["a"], []), (("a",), []), ({}, []),
]

BAD_CHILDREN = [
    None, True, False, 0, 1, 10 ** 29, "", "a", b"a", [], ["a", []], (), ("a",), {}, [("a", [])],
]

NO_TREES = [
    *OTHER_KINDS,
    *BAD_PARTS,
    *[("a", [bad]) for bad in [*BAD_CHILDREN, *BAD_PARTS]],
    *[("a", [("b", []), ("c", [("d", []), bad]), ("e", [])]) for bad in [*BAD_CHILDREN, *BAD_PARTS]],
    *[("a", [bad, ("b", [])]) for bad in BAD_CHILDREN],
    nested(("a", ()), 40, lambda x: ("a", [x])),
    nested(None, 40, lambda x: ("a", [x, ("b", [])])),
    nested(["a", []], 40, lambda x: ("a", [("b", []), x])),
]
