"""[2], [4], [13], [14]: states that come, least trees, and papers that none is let by."""

import copy
import unittest
from itertools import combinations, permutations, product

from helpers import (
    OTHER_KINDS, chance_judge, changed, check_told_anew, class_by_words, judge_by, leaf, row_of,
    state_by_words, told_trees, written,
)
from heaptrees.coming import least_trees, none_paper, none_shows, states_that_come
from heaptrees.joining import judges_joined, turned_judge
from heaptrees.judges import lets_by, state_of
from heaptrees.trees import is_tree, size_of, told_form, written_tree

# State 1 has seven leaves (or 11, 15, ..), state 2 as many of state 1 and two leaves; 2 is good.
SEVENS = judge_by(
    "a", 3, 4, 4,
    lambda letter, row: 2 if row == (2, 7, 0) else 1 if row == (7, 0, 0) else 0,
    [2],
)

# The last state comes only by as many children as can be.
MANY = judge_by("a", 3, 4, 4, lambda letter, row: 2 if row == (7, 7, 0) else int(row == (7, 0, 0)), [2])

# State 1 comes with the letter b alone, 2 of two of state 1 at least, 3 never: only of state 3.
CHAIN = judge_by(
    "ab", 4, 2, 1,
    lambda letter, row: 3 if row[3] > 0 else 2 if row[1] == 2 else 1 if letter == "b" else 0,
    [3],
)

# State 0 is no leaf, so nothing is: just state 1 comes.
ALONE = judge_by("xyz", 2, 0, 3, lambda letter, row: 1, [0])

# Each state but the first is made of one of the state before it, with children of all of them.
STAIRS = judge_by("m", 6, 1, 1, lambda letter, row: min(row.index(0) if 0 in row else 5, 5), [5])

SMALL = [
    CHAIN, ALONE,
    judge_by("a", 2, 0, 2, lambda letter, row: (1 + row[1]) % 2, [0]),
    judge_by("ab", 2, 1, 1, lambda letter, row: int(letter == "b" or row[1] > 0), [0]),
    *[chance_judge(seed, "ab", *row) for seed in range(3) for row in product((1, 2, 3), (0, 1), (1, 2))],
    *[chance_judge(seed, "b", 4, 1, 1) for seed in range(8)],
    *[chance_judge(seed, "a", 6, 0, 2) for seed in range(4)],
    *[chance_judge(seed, "a", 5, 1, 1) for seed in range(4)],
]

GREAT = [
    SEVENS, STAIRS,
    *[chance_judge(seed, "a", 3, 4, 4) for seed in range(4)],
    *[chance_judge(seed, "ab", 2, 4, 4) for seed in range(4)],
    *[chance_judge(seed, "abcdefghi", 6, 1, 1) for seed in range(4)],
    *[chance_judge(seed, "abc", 4, 2, 1) for seed in range(4)],
]


def least_sizes(judge, most):
    """From each state that a tree of at most so many parts has to the least size of one.

    Forests are put together child by child: of each size, the tuples of classes that come.
    """
    letters, states, few, turn, table, good = judge
    forests = [{(0,) * states}]
    sizes = {}
    for size in range(1, most + 1):
        for letter, row in product(letters, forests[size - 1]):
            sizes.setdefault(table[letter, row], size)
        # A child of a greater size than the least of its state never makes a smaller tree.
        forests.append({
            tuple(class_by_words(number + (state == at), few, turn) for at, number in enumerate(row))
            for state, part in sizes.items() if part <= size
            for row in forests[size - part]
        })
    return sizes


def small_trees(letters):
    return [tree for size in range(1, 7 if len(letters) < 3 else 6) for tree in told_trees(size, letters)]


def sizes_told(judge):
    return {state: size_of(tree) for state, tree in least_trees(judge).items()}


def holds_paper(judge, paper):
    """[14] word by word."""
    letters, states, few, turn, table, good = judge
    if paper != sorted(set(paper)) or any(state not in range(states) or state in good for state in paper):
        return False
    others = [state for state in range(states) if state not in paper]
    return all(
        table[letter, row] in paper
        for letter, row in product(letters, product(range(few + turn), repeat=states))
        if all(row[state] == 0 for state in others)
    )


class StatesThatCome(unittest.TestCase):
    def test_by_hand(self):
        for judge, told in [
            (SEVENS, [0, 1, 2]), (CHAIN, [0, 1, 2]), (ALONE, [1]), (STAIRS, [0, 1, 2, 3, 4, 5]), (MANY, [0, 1, 2]),
            (judge_by("a", 6, 0, 1, lambda letter, row: 4, []), [4]),
            (judge_by("ab", 6, 0, 1, lambda letter, row: 5 if letter == "a" else 0, []), [0, 5]),
            (judge_by("a", 3, 1, 1, lambda letter, row: 2 if row[2] == 0 else 1, [0]), [1, 2]),
            # State 1 would be made of itself alone.
            (judge_by("a", 2, 4, 1, lambda letter, row: int(row[1] > 0), [1]), [0]),
            # An even number of children of state 1 may be none.
            (judge_by("a", 2, 0, 2, lambda letter, row: int(row[1] == 0), [1]), [0, 1]),
        ]:
            self.assertEqual(states_that_come(judge), told)

    def test_by_all_small_trees(self):
        trees = {letters: small_trees(letters) for letters in ("a", "b", "ab", "xyz")}
        for judge in SMALL:
            found = {state_by_words(judge, tree) for tree in trees[judge[0]]}
            self.assertLessEqual(found, set(states_that_come(judge)))

    def test_by_forests_put_together(self):
        for judge in SMALL + GREAT:
            self.assertEqual(states_that_come(judge), sorted(least_sizes(judge, 90)))

    def test_which_states_are_good_does_not_matter(self):
        for judge in SMALL:
            for good in [[], list(range(judge[1]))]:
                self.assertEqual(states_that_come(changed(judge, 5, good)), states_that_come(judge))


class LeastTrees(unittest.TestCase):
    def test_by_hand(self):
        a, b = leaf("a"), leaf("b")
        self.assertIn(least_trees(CHAIN), [{0: a, 1: b, 2: (letter, [b, b])} for letter in "ab"])
        self.assertIn(least_trees(ALONE), [{1: leaf(letter)} for letter in "xyz"])
        seven = ("a", [a] * 7)
        self.assertEqual(least_trees(SEVENS), {0: a, 1: seven, 2: told_form(("a", [a, a, *[seven] * 7]))})
        self.assertEqual(least_trees(MANY), {0: a, 1: seven, 2: told_form(("a", [*[a] * 7, *[seven] * 7]))})
        self.assertEqual(sizes_told(MANY), {0: 1, 1: 8, 2: 64})
        self.assertEqual(sizes_told(STAIRS), {state: 2 ** state for state in range(6)})

    def test_two_ways_the_smaller_one(self):
        # State 2 comes of three leaves, or of one part with one leaf; state 1 of one leaf.
        judge = judge_by(
            "a", 3, 4, 1, lambda letter, row: 1 if row == (1, 0, 0) else 2 if row in ((3, 0, 0), (0, 1, 0)) else 0, [],
        )
        self.assertEqual(least_trees(judge), {0: leaf("a"), 1: row_of("a", 2), 2: row_of("a", 3)})

    def test_a_state_found_first_by_a_greater_tree(self):
        # In the table's order state 3 comes of four leaves ahead of of one part of state 2.
        judge = judge_by(
            "a", 4, 2, 3,
            lambda letter, row: {(4, 0, 0, 0): 3, (1, 0, 0, 0): 1, (0, 1, 0, 0): 2, (0, 0, 1, 0): 3}.get(row, 0), [],
        )
        order = sorted(judge[4], key=lambda key: key[1] != (4, 0, 0, 0))
        for keys in [list(judge[4]), order, order[::-1]]:
            told = least_trees(changed(judge, 4, {key: judge[4][key] for key in keys}))
            self.assertEqual(size_of(told[3]), 4)
            self.assertEqual(state_of(judge, told[3]), 3)

    def test_each_has_its_state_and_is_in_told_form(self):
        for judge in SMALL + GREAT + [MANY]:
            told = least_trees(judge)
            self.assertEqual(sorted(told), states_that_come(judge))
            for state, tree in told.items():
                self.assertIs(is_tree(tree), True)
                self.assertEqual(state_of(judge, tree), state)
                self.assertEqual(told_form(tree), tree)
                self.assertEqual(written_tree(tree), written(tree))

    def test_none_is_smaller_of_all_small_trees(self):
        for judge in SMALL:
            found = {}
            for tree in small_trees(judge[0]):
                found.setdefault(state_by_words(judge, tree), size_of(tree))
            told = sizes_told(judge)
            self.assertLessEqual(found.items(), told.items())
            self.assertTrue(all(state in found or size > 5 for state, size in told.items()))

    def test_none_is_smaller_of_forests_put_together(self):
        for judge in SMALL + GREAT + [MANY]:
            self.assertEqual(sizes_told(judge), least_sizes(judge, 90))

    def test_of_joined_and_turned_judges(self):
        even = judge_by("ab", 2, 0, 2, lambda letter, row: (1 + row[1]) % 2, [0])
        no_b = judge_by("ab", 2, 1, 1, lambda letter, row: int(letter == "b" or row[1] > 0), [0])
        for judge, size in [
            (judges_joined("both", even, no_b), 2), (judges_joined("either", even, no_b), 1),
            (judges_joined("both", even, turned_judge(no_b)), 2),
            (judges_joined("both", turned_judge(even), turned_judge(no_b)), 1),
        ]:
            trees = least_trees(judge)
            self.assertEqual(min(size_of(trees[state]) for state in trees if state in judge[5]), size)
            self.assertTrue(all(lets_by(judge, trees[state]) is (state in judge[5]) for state in trees))


class NonePaper(unittest.TestCase):
    def test_by_hand(self):
        for judge, told in [
            (CHAIN, True), (ALONE, True), (SEVENS, False), (STAIRS, False), (changed(SEVENS, 5, []), True),
            (changed(ALONE, 5, [1]), False), (changed(ALONE, 5, [0, 1]), False), (changed(CHAIN, 5, [2, 3]), False),
            (judge_by("a", 2, 4, 1, lambda letter, row: int(row[1] > 0), [1]), True),
            (judge_by("a", 1, 0, 1, lambda letter, row: 0, [0]), False),
            (judge_by("a", 1, 0, 1, lambda letter, row: 0, []), True),
        ]:
            paper = none_paper(judge)
            self.assertIs(paper is not None, told)
            if told:
                self.assertIs(none_shows(judge, paper), True)
                self.assertIs(type(paper), list)
        self.assertEqual(none_paper(ALONE), [1])
        self.assertEqual(none_paper(judge_by("a", 1, 0, 1, lambda letter, row: 0, [])), [0])

    def test_told_where_none_is_let_by(self):
        for judge in SMALL + GREAT:
            for good in [judge[5], [], [judge[1] - 1], [0], list(range(judge[1]))]:
                asked = changed(judge, 5, good)
                paper = none_paper(asked)
                self.assertIs(paper is None, any(state in good for state in least_sizes(judge, 90)))
                if paper is not None:
                    self.assertIs(none_shows(asked, paper), True)
                    self.assertTrue(holds_paper(asked, paper))

    def test_of_a_judge_joined_with_what_it_lets_not_by(self):
        for judge in SMALL:
            if judge[1] <= 2:
                self.assertIsNotNone(none_paper(judges_joined("both", judge, turned_judge(judge))))
                self.assertIsNone(none_paper(judges_joined("either", judge, turned_judge(judge))))


class NoneShows(unittest.TestCase):
    def test_by_hand(self):
        for paper, told in [
            ([0, 1, 2], True), ([], False), ([0], False), ([1], False), ([2], False), ([0, 1], False), ([0, 2], False),
            ([1, 2], False), ([0, 1, 2, 3], False), ([3], False), ([0, 1, 2, 4], False), ([-1, 0, 1, 2], False),
            ([0, 2, 1], False), ([2, 1, 0], False), ([1, 0, 2], False), ([0, 0, 1, 2], False), ([0, 1, 2, 2], False),
            ([0, 1, 1, 2], False), ([0, 1, 2, 10 ** 29], False), ([-10 ** 29, 0, 1, 2], False),
        ]:
            with self.subTest(paper):
                self.assertIs(none_shows(CHAIN, paper), told)

    def test_more_than_what_comes_may_show_it(self):
        # State 0 never comes, 2 and 3 come of themselves alone: a paper may have 0 and 2 in it or not.
        judge = judge_by("a", 4, 1, 1, lambda letter, row: 3 if row[3] else 2 if row[2] else 1, [3])
        shown = [paper for paper in self.papers(4) if none_shows(judge, paper)]
        self.assertEqual(shown, [[1], [0, 1], [1, 2], [0, 1, 2]])
        # With children of state 0 the good one comes, though no tree has state 0.
        other = judge_by("a", 3, 1, 1, lambda letter, row: 2 if row[0] else 1, [2])
        self.assertEqual([paper for paper in self.papers(3) if none_shows(other, paper)], [[1]])

    def test_good_states_are_in_no_paper(self):
        for good, told in [([], True), ([0], True), ([1], False), ([0, 1], False)]:
            self.assertIs(none_shows(changed(ALONE, 5, good), [1]), told)
            self.assertIs(none_shows(changed(ALONE, 5, good), [0, 1]), good == [])

    def test_a_truth_is_no_state(self):
        self.assertIs(none_shows(changed(ALONE, 5, []), [0, 1]), True)
        for paper in [[False, True], [0, True], [False, 1], [True]]:
            self.assertIs(none_shows(changed(ALONE, 5, []), paper), False)

    def test_other_kinds(self):
        for thing in [*OTHER_KINDS, (1,), {1: 1}, "1", [None], ["1"], [[1]], [(1,)]]:
            with self.subTest(thing):
                self.assertIs(none_shows(ALONE, thing), False)

    def test_the_empty_list(self):
        for judge in SMALL + GREAT:
            self.assertIs(none_shows(judge, []), False)
            self.assertIs(none_shows(changed(judge, 5, []), []), False)

    def test_by_words(self):
        for judge in SMALL + [changed(judge, 5, []) for judge in SMALL] + [changed(judge, 5, [0]) for judge in SMALL]:
            for paper in self.papers(judge[1] + 1):
                self.assertIs(none_shows(judge, paper), holds_paper(judge, paper))
            for paper in [list(row) for row in permutations(range(min(3, judge[1])))]:
                self.assertIs(none_shows(judge, paper), holds_paper(judge, paper))
            for paper in self.papers(judge[1])[1:]:
                self.assertIs(none_shows(judge, [*paper, paper[-1]]), False)
                self.assertIs(none_shows(judge, [paper[0], *paper]), False)

    def test_no_paper_shows_what_is_not_so(self):
        for judge in SMALL + GREAT:
            shown = any(none_shows(judge, paper) for paper in self.papers(judge[1]))
            self.assertIs(shown, not any(state in judge[5] for state in least_sizes(judge, 90)))

    def test_three_thousand_things(self):
        self.assertIs(none_shows(ALONE, [1] * 3000), False)
        self.assertIs(none_shows(ALONE, list(range(3000))), False)

    def papers(self, states):
        return [list(row) for many in range(states + 1) for row in combinations(range(states), many)]


class OwnThings(unittest.TestCase):
    """[2]: nothing handed in is changed or kept, and what is told is the asker's own."""

    def test_what_is_handed_in_stays(self):
        for judge in SMALL + GREAT:
            before = copy.deepcopy(judge)
            order = list(judge[4])
            states_that_come(judge)
            least_trees(judge)
            none_paper(judge)
            for paper in [[], [0], [1, 0], [0, 0, 7]]:
                asked = list(paper)
                none_shows(judge, asked)
                self.assertEqual(asked, paper)
            self.assertEqual(judge, before)
            self.assertEqual(list(judge[4]), order)

    def test_what_is_told_is_new(self):
        for judge in [CHAIN, SEVENS, STAIRS, MANY, ALONE, changed(MANY, 5, [])]:
            for function in [states_that_come, least_trees, none_paper]:
                check_told_anew(self, lambda: function(judge), judge)

    def test_a_tree_within_another_one_is_told_as_two(self):
        told = least_trees(STAIRS)
        told[0][1].append(leaf("m"))
        self.assertEqual([size_of(told[state]) for state in range(1, 6)], [2, 4, 8, 16, 32])
        told[4][1][-1][1].clear()
        self.assertEqual(state_of(STAIRS, told[5]), 5)

    def test_told_things_are_of_the_kinds_told(self):
        self.assertIs(type(states_that_come(CHAIN)), list)
        self.assertIs(type(least_trees(CHAIN)), dict)
        self.assertIs(type(none_paper(CHAIN)), list)
        for told in [states_that_come(CHAIN), least_trees(CHAIN), none_paper(CHAIN)]:
            self.assertTrue(all(type(state) is int for state in told))


if __name__ == "__main__":
    unittest.main()
