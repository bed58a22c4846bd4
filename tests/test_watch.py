"""[2], [3], [4], [23], [24]: watched trees."""

import copy
import unittest
from itertools import product
from random import Random

from helpers import (
    NO_TREES, OTHER_KINDS, all_unlike, chance_judge, changed, holders_within, judge_by, leaf, nested,
    row_of, share_any, shuffled, state_by_words,
)
from heaptrees.errors import HeapError, NoLetter, NoNumber, NoTree
from heaptrees.judges import lets_by, part_states
from heaptrees.trees import told_form
from heaptrees.watch import Watch

# State 1 is an odd size, 0 an even one.
EVEN = judge_by("a", 2, 0, 2, lambda letter, row: (1 + row[1]) % 2, [0])

# State 1 is a tree with a b at any place; let by are trees without one.
NO_B = judge_by("ab", 2, 1, 1, lambda letter, row: int(letter == "b" or row[1] > 0), [0])

# State 0 is a leaf, 1 has one or two leaves, 2 is any other part.
LEAVES = judge_by("ab", 3, 3, 1, lambda letter, row: 0 if row == (0, 0, 0) else 1 if 1 <= row[0] <= 2 else 2, [1, 2])

JUDGES = [EVEN, NO_B, LEAVES, *[chance_judge(seed, "ab", *row) for seed, row in enumerate([(3, 1, 2), (2, 4, 4), (4, 1, 1), (5, 1, 1)])]]

NO_LISTS = [thing for thing in OTHER_KINDS if not isinstance(thing, list)] + [(0,), (0, 0), {0: 0}, "0", range(1), leaf("a")]


def all_names(tree):
    """The name of each part, rising."""
    return [[], *[[place, *rest] for place, child in enumerate(tree[1]) for rest in all_names(child)]]


def part_at(tree, names):
    for place in names:
        tree = tree[1][place]
    return tree


def put_by_words(tree, names, child):
    children = list(tree[1])
    if names:
        children[names[0]] = put_by_words(children[names[0]], names[1:], child)
    else:
        children.append(child)
    return (tree[0], children)


def taken_by_words(tree, names):
    children = list(tree[1])
    if len(names) > 1:
        children[names[0]] = taken_by_words(children[names[0]], names[1:])
    else:
        del children[names[0]]
    return (tree[0], children)


def behind_take(name, taken):
    """The name behind the take of a part that was there: None for what was taken, and its parts."""
    depth = len(taken) - 1
    if len(name) <= depth or name[:depth] != taken[:depth] or name[depth] < taken[depth]:
        return name
    if name[depth] == taken[depth]:
        return None
    return [*name[:depth], name[depth] - 1, *name[depth + 1:]]


def chance_tree(chance, parts, letters):
    tree = leaf(chance.choice(letters))
    for _ in range(parts - 1):
        tree = put_by_words(tree, chance.choice(all_names(tree)), leaf(chance.choice(letters)))
    return tree


class Asked(unittest.TestCase):
    def check(self, watch, judge, tree):
        """Whether the watch tells of the tree what its judge tells anew."""
        self.assertEqual(watch.tree(), tree)
        self.assertIs(watch.good(), state_by_words(judge, tree) in judge[5])
        for names in all_names(tree):
            self.assertEqual(watch.state_at(names), state_by_words(judge, part_at(tree, names)))


class PutAndTake(Asked):
    def test_by_hand(self):
        tree = ("a", [leaf("b"), ("a", [leaf("a")])])
        watch = Watch(LEAVES, tree)
        self.assertEqual([watch.state_at(names) for names in ([], [0], [1], [1, 0])], [1, 0, 1, 0])
        # A leaf less on top, one level more: the leaf becomes a part with a leaf.
        self.assertEqual(watch.put([0], leaf("a")), [[], [0]])
        self.assertEqual(watch.tree(), ("a", [("b", [leaf("a")]), ("a", [leaf("a")])]))
        self.assertEqual(watch.put([1], leaf("b")), [])
        self.assertEqual(watch.put([1], leaf("b")), [[1]])
        self.assertEqual(watch.tree(), ("a", [("b", [leaf("a")]), ("a", [leaf("a"), leaf("b"), leaf("b")])]))
        self.assertEqual(watch.take([1, 0]), [[1]])
        self.assertEqual(watch.tree(), ("a", [("b", [leaf("a")]), ("a", [leaf("b"), leaf("b")])]))
        # What stood behind the part that is taken has another name then, but no other state.
        self.assertEqual(watch.take([0]), [])
        self.assertEqual(watch.tree(), ("a", [("a", [leaf("b"), leaf("b")])]))
        self.assertEqual([watch.state_at(names) for names in ([], [0], [0, 0], [0, 1])], [2, 1, 0, 0])
        self.assertEqual(watch.take([0]), [[]])
        self.assertEqual((watch.tree(), watch.state_at([]), watch.good()), (leaf("a"), 0, False))
        self.assertEqual(watch.put([], leaf("b")), [[]])
        self.assertIs(watch.good(), True)

    def test_a_part_on_the_way_stands_behind_one_that_is_taken(self):
        tree = ("a", [leaf("b"), leaf("a"), ("b", [leaf("a"), ("a", [leaf("b"), leaf("a"), leaf("a")])])])
        watch = Watch(LEAVES, tree)
        self.assertEqual(watch.state_at([2, 1]), 2)
        self.assertEqual(watch.take([2, 1, 1]), [[2, 1]])
        self.assertEqual(watch.take([0]), [])
        self.assertEqual(watch.put([1, 1], leaf("a")), [[1, 1]])
        self.assertEqual(watch.take([1, 1]), [])
        self.assertEqual(watch.take([1, 0]), [[1]])
        self.assertEqual(watch.tree(), ("a", [leaf("a"), leaf("b")]))

    def test_odd_sizes_far_down(self):
        for depth in (1, 2, 30, 59):
            watch = Watch(EVEN, row_of("a", depth))
            down = [0] * (depth - 1)
            every = [down[:level] for level in range(depth)]
            self.assertEqual(watch.put(down, leaf("a")), every)
            self.assertEqual(watch.state_at([*down, 0]), 1)
            self.assertEqual(watch.take([*down, 0]), every)
            if depth < 59:
                self.assertEqual(watch.put(down, row_of("a", 2)), [])
                self.assertEqual(watch.put([*down, 0], leaf("a")), [*every, [*down, 0]])

    def test_a_change_that_stops_on_the_way(self):
        # There is a b beside, so that nothing above it has another state.
        watch = Watch(NO_B, ("a", [("a", [leaf("b"), ("a", [leaf("a")])]), leaf("a")]))
        self.assertEqual(watch.put([0, 1, 0], leaf("b")), [[0, 1], [0, 1, 0]])
        self.assertEqual(watch.take([0, 0]), [])
        self.assertEqual(watch.take([0, 0, 0, 0]), [[], [0], [0, 0], [0, 0, 0]])
        self.assertIs(watch.good(), True)

    def test_what_is_put_is_a_tree_with_parts_of_its_own(self):
        watch = Watch(NO_B, leaf("a"))
        self.assertEqual(watch.put([], ("a", [leaf("b"), leaf("a")])), [[]])
        self.assertEqual([watch.state_at(names) for names in ([], [0], [0, 0], [0, 1])], [1, 1, 1, 0])
        self.assertEqual(watch.take([0, 0]), [[], [0]])

    def test_children_stand_as_they_were_handed_in_and_behind_the_others(self):
        tree = ("a", [leaf("b"), ("a", [leaf("b"), leaf("a")]), leaf("a"), leaf("b")])
        watch = Watch(NO_B, tree)
        self.assertEqual(watch.tree(), tree)
        self.assertNotEqual(watch.tree(), told_form(tree))
        watch.put([1], ("a", [leaf("b"), leaf("a")]))
        watch.put([], leaf("a"))
        self.assertEqual(watch.tree(), (
            "a", [leaf("b"), ("a", [leaf("b"), leaf("a"), ("a", [leaf("b"), leaf("a")])]), leaf("a"), leaf("b"), leaf("a")],
        ))
        watch.take([2])
        self.assertEqual(watch.tree()[1][2:], [leaf("b"), leaf("a")])

    def test_rows_of_puts_and_takes(self):
        for seed, judge in product(range(6), JUDGES):
            chance = Random(seed)
            tree = chance_tree(chance, 1 + 6 * seed, judge[0])
            watch = Watch(judge, tree)
            self.check(watch, judge, tree)
            for _ in range(40):
                names = chance.choice(all_names(tree))
                before = {tuple(name): state_by_words(judge, part_at(tree, name)) for name in all_names(tree)}
                child = chance_tree(chance, chance.randrange(1, 5), judge[0])
                if names and (chance.randrange(2) or len(before) > 50):
                    tree = taken_by_words(tree, names)
                    told = watch.take(names)
                    renamed = {name: behind_take(list(name), names) for name in before}
                    way = names[:-1]
                else:
                    tree = put_by_words(tree, names, child)
                    told = watch.put(names, child)
                    renamed = {name: list(name) for name in before}
                    way = names
                due = [
                    name for old, name in renamed.items()
                    if name is not None and state_by_words(judge, part_at(tree, name)) != before[old]
                ]
                self.assertEqual(told, sorted(due))
                # [24]: only on the way from the tree down.
                self.assertTrue(all(name == way[:len(name)] for name in told))
                self.check(watch, judge, tree)

    def test_sixty_parts(self):
        for tree in [row_of("a", 60), ("a", [leaf("a")] * 59), ("a", [row_of("a", 29), row_of("a", 30)])]:
            watch = Watch(EVEN, tree)
            self.check(watch, EVEN, tree)
            self.assertEqual(watch.take([0]), [[]] if len(part_states(EVEN, tree[1][0])) % 2 else [])

    def test_deeper_than_python_lets_calls_be(self):
        watch = Watch(EVEN, row_of("a", 3000))
        self.assertEqual(watch.state_at([]), 0)
        self.assertEqual(watch.state_at([0] * 2999), 1)
        self.assertEqual(len(watch.put([0] * 2999, leaf("a"))), 3000)
        self.assertEqual(part_states(EVEN, watch.tree())[-1], 1)


class Refused(Asked):
    def refusals(self):
        judge, tree = NO_B, ("a", [leaf("b"), ("a", [leaf("a"), leaf("a")]), leaf("a")])
        return judge, tree, Watch(judge, tree)

    def test_what_names_no_part(self):
        judge, tree, watch = self.refusals()
        names = [
            *NO_LISTS, [3], [-1], [0, 0], [1, 2], [1, -1], [1, 0, 0], [2, 0], [10 ** 29], [-10 ** 29], [1, 10 ** 29], [None], ["0"],
            ["a"], [[]], [[0]], [(0,)], [True], [False], [1, True], [1, False], [True, 0], [b""], [{}], [0, None], [1, 0, None], [1] * 3000,
            nested([], 100, lambda x: [x]), nested([], 100, lambda x: [0, x]), [[], 0], [leaf("a")],
        ]
        for name in names:
            for ask in [lambda: watch.put(name, leaf("a")), lambda: watch.take(name), lambda: watch.state_at(name)]:
                with self.subTest(name):
                    with self.assertRaises(NoNumber) as caught:
                        ask()
                    self.assertIsInstance(caught.exception, HeapError)
        self.check(watch, judge, tree)

    def test_the_tree_itself_is_not_taken(self):
        for tree in [leaf("a"), ("a", [leaf("b")])]:
            watch = Watch(NO_B, tree)
            with self.assertRaises(NoNumber):
                watch.take([])
            self.check(watch, NO_B, tree)

    def test_no_tree_is_put(self):
        judge, tree, watch = self.refusals()
        for thing in NO_TREES:
            for names in ([], [1], [1, 0]):
                with self.subTest(thing):
                    with self.assertRaises(NoTree) as caught:
                        watch.put(names, thing)
                    self.assertIsInstance(caught.exception, HeapError)
        self.check(watch, judge, tree)

    def test_no_letter(self):
        judge, tree, watch = self.refusals()
        for child in [leaf("c"), ("a", [leaf("b"), leaf("c")]), ("c", [leaf("a")]), nested(leaf("z"), 20, lambda x: ("a", [leaf("b"), x]))]:
            for names in ([], [1], [1, 0]):
                with self.assertRaises(NoLetter) as caught:
                    watch.put(names, child)
                self.assertIsInstance(caught.exception, HeapError)
        self.check(watch, judge, tree)

    def test_which_goes_first(self):
        judge, tree, watch = self.refusals()
        for names in [[3], (), None, [True], [1, 2]]:
            for child in [None, leaf("c"), ("a", ()), leaf("a"), ("c", [None])]:
                with self.assertRaises(NoNumber):
                    watch.put(names, child)
        for child in [("c", [None]), ("a", [leaf("c"), None]), ("a", [None, leaf("c")])]:
            with self.assertRaises(NoTree):
                watch.put([1], child)
        self.check(watch, judge, tree)

    def test_what_is_no_tree_is_not_watched(self):
        for thing in NO_TREES:
            with self.subTest(thing):
                with self.assertRaises(NoTree):
                    Watch(NO_B, thing)
        for tree in [leaf("c"), ("a", [leaf("b"), leaf("c")]), ("z", [])]:
            with self.assertRaises(NoLetter):
                Watch(NO_B, tree)
        for tree in [("c", [None]), ("a", [leaf("c"), None])]:
            with self.assertRaises(NoTree):
                Watch(NO_B, tree)


class OwnThings(Asked):
    """[2]: nothing handed in is changed or kept, and what is told is the asker's own."""

    def test_what_is_handed_in_stays(self):
        children = [leaf("b"), leaf("a")]
        tree, child, names = ("a", [("a", children), ("b", children)]), ("b", children), [1, 0]
        before = copy.deepcopy((NO_B, tree, child, names))
        watch = Watch(NO_B, tree)
        watch.put(names, child)
        watch.put(names, child)
        watch.take(names)
        watch.state_at(names)
        watch.take([0])
        self.assertEqual((NO_B, tree, child, names), before)

    def test_what_was_handed_in_may_be_changed(self):
        judge, tree, child, names = copy.deepcopy((NO_B, ("a", [leaf("b"), leaf("a")]), ("a", [leaf("a")]), [1]))
        watch = Watch(judge, tree)
        watch.put(names, child)
        watch.put(names, child)
        due = watch.tree()
        names.append(0)
        child[1].append(leaf("b"))
        tree[1].clear()
        judge[4].clear()
        judge[5].append(1)
        self.check(watch, NO_B, due)
        self.assertIs(watch.good(), False)
        self.assertEqual(watch.take([0]), [[]])
        self.assertIs(watch.good(), True)
        self.assertEqual(watch.put([0, 1, 0], leaf("b")), [[], [0], [0, 1], [0, 1, 0]])

    def test_one_list_in_several_places_is_several_parts(self):
        children = [leaf("a")]
        watch = Watch(NO_B, ("a", [("a", children), ("a", children)]))
        self.assertEqual(watch.put([0], leaf("b")), [[], [0]])
        self.assertEqual(watch.tree(), ("a", [("a", [leaf("a"), leaf("b")]), ("a", [leaf("a")])]))
        self.assertTrue(all_unlike(watch.tree()))

    def test_what_is_told_is_new(self):
        tree, child = ("a", [("a", [leaf("b")]), leaf("a")]), ("b", [leaf("a")])
        names = [0, 0]
        watch = Watch(LEAVES, tree)
        put, trees, taken = watch.put(names, child), [watch.tree(), watch.tree()], watch.take([0, 0, 0])
        self.assertEqual((put, taken), ([[0], [0, 0]], [[0], [0, 0]]))
        self.assertTrue(all_unlike(put, taken, *trees))
        self.assertFalse(share_any((put, taken, trees), (LEAVES, tree, child, names)))
        due = copy.deepcopy(watch.tree())
        for holder in holders_within((put, taken, trees)):
            holder.clear()
        self.check(watch, LEAVES, due)
        self.assertEqual(watch.put([0, 0], child), [[0], [0, 0]])

    def test_two_watches_of_one_judge_and_one_tree(self):
        tree = ("a", [leaf("a"), leaf("a")])
        one, other = Watch(NO_B, tree), Watch(NO_B, tree)
        self.assertEqual(one.put([1], leaf("b")), [[], [1]])
        self.assertEqual(one.take([0]), [])
        self.check(other, NO_B, tree)
        self.check(one, NO_B, ("a", [("a", [leaf("b")])]))
        third = Watch(NO_B, one.tree())
        third.take([0])
        self.check(one, NO_B, ("a", [("a", [leaf("b")])]))

    def test_told_things_are_of_the_kinds_told(self):
        watch = Watch(NO_B, ("a", [leaf("a")]))
        told = watch.put([0], leaf("b"))
        self.assertEqual([type(thing) for thing in (told, *told)], [list, list, list])
        self.assertIs(type(told[1][0]), int)
        self.assertEqual([type(thing) for thing in (watch.tree(), watch.tree()[1], watch.state_at([]), watch.good())], [tuple, list, int, bool])


class OrderOfChildren(Asked):
    """[4]: a watched tree with its children in another order is told the same of."""

    def test_it(self):
        chance = Random(3)
        for judge in JUDGES:
            tree = chance_tree(chance, 20, judge[0])
            for seed in range(4):
                other = shuffled(seed, tree)
                watch = Watch(judge, other)
                self.assertEqual(watch.state_at([]), state_by_words(judge, tree))
                watch.put([], tree)
                self.assertIs(watch.good(), lets_by(judge, ("a" if judge is EVEN else tree[0], [tree, *tree[1]])))

    def test_which_states_are_good(self):
        for good in [[], [0], [1], [2], [0, 1, 2]]:
            watch = Watch(changed(LEAVES, 5, good), leaf("a"))
            self.assertIs(watch.good(), 0 in good)
            watch.put([], leaf("b"))
            self.assertIs(watch.good(), 1 in good)


if __name__ == "__main__":
    unittest.main()
