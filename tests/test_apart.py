"""[2], [3], [4], [19], [20]: states told apart."""

import copy
import unittest
from itertools import product

from helpers import (
    NO_TREES, OTHER_KINDS, chance_judge, changed, check_told_anew, coming_by_words,
    groups_by_words, grown_otherwise, judge_by, leaf, nested, parted_by_words, row_behind, row_of,
    rows_of, shuffled, state_by_words, told_trees,
)
from heaptrees.apart import alike_paper, alike_shows, parting_surrounding, state_behind
from heaptrees.coming import least_trees
from heaptrees.errors import HeapError, NoLetter, NoNumber, NoTree
from heaptrees.judges import state_of
from heaptrees.leastjudge import least_judge, put_into

# Sizes by fours, of which the even ones are let by: 0 and 2 are alike, 1 and 3.
FOURS = judge_by("a", 4, 0, 4, lambda letter, row: (1 + row[1] + 2 * row[2] + 3 * row[3]) % 4, [0, 2])

# States 1 and 2 are trees with a b, 2 with one on top: alike. State 3 never comes.
NO_B = judge_by(
    "ab", 4, 1, 1,
    lambda letter, row: 3 if row[3] else 2 if letter == "b" else 1 if row[1] or row[2] else 0,
    [0],
)

# The depth up to six; let by is depth six or more: to part 0 and 1 it takes four tuples.
DEPTHS = judge_by("a", 6, 1, 1, lambda letter, row: min(5, max([k + 1 for k in range(6) if row[k]] + [0])), [5])

# State 0 never comes, 3 is a leaf, 1 is above leaves, 5 is any other one; 2 and 4 never come.
ODDLY = judge_by("a", 6, 0, 2, lambda letter, row: 3 if row[1] + row[3] == 0 else 1 if row[1] == 0 else 5, [1, 5])

# State 2 has six children of state 0 at least, and one of state 1, that is a b.
MANY = judge_by(
    "ab", 3, 3, 3,
    lambda letter, row: 2 if row[0] >= 3 and row[0] % 3 == 0 and row[1] == 1 else int(letter == "b"),
    [2],
)

ONE = judge_by("a", 1, 2, 3, lambda letter, row: 0, [0])

NAMED = [FOURS, NO_B, DEPTHS, ODDLY, MANY, ONE, changed(FOURS, 5, [1]), changed(DEPTHS, 5, [2]), changed(MANY, 5, [])]

SMALL = [
    *[chance_judge(seed, "ab", *row) for seed in range(3) for row in product((2, 3), (0, 1), (1, 2))],
    *[chance_judge(seed, "a", 4, 1, 1) for seed in range(6)],
    *[chance_judge(seed, "a", 4, 0, 2) for seed in range(6)],
    *[chance_judge(seed, "a", 3, 1, 2) for seed in range(6)],
]

GREAT = [
    chance_judge(0, "abcdefghi", 6, 1, 1), chance_judge(1, "a", 3, 4, 4), chance_judge(2, "a", 6, 1, 1),
    chance_judge(3, "abcdefghijklmnopqrstuvwxyz", 2, 0, 4), chance_judge(4, "ab", 5, 1, 2),
]

JUDGES = [*NAMED, *SMALL, *GREAT]

NO_NUMBERS = [
    None, True, False, "", "0", "1", b"0", [], [0], [[]], (), (0,), {}, {0: 0}, set(), object(), int, len, range(1),
    -1, 10 ** 29, -10 ** 29, 6, 7, nested([], 100, lambda x: [x]), nested((), 100, lambda x: (x,)), leaf("a"),
]


def parts(judge, surrounding, p, q):
    """Whether the surrounding parts the two, by the judge's word on trees of the states."""
    trees = least_trees(judge)
    let_by = [state_by_words(judge, put_into(surrounding, trees[state])) in judge[5] for state in (p, q)]
    return let_by[0] != let_by[1]


def surroundings(judge, many, heaps):
    """All surroundings of so many tuples, of least trees of these heaps."""
    if many == 0:
        return [[]]
    return [
        [(letter, children), *rest]
        for letter, children in product(judge[0], heaps) for rest in surroundings(judge, many - 1, heaps)
    ]


def all_heaps(judge):
    """For each tuple of classes that heaps of trees have, a heap of least trees."""
    trees = least_trees(judge)
    return [
        [trees[state] for state, number in enumerate(row) for _ in range(number)]
        for row in rows_of(judge, coming_by_words(judge))
    ]


def partitions(things):
    """All lists of lists, rising and in order of their first ones, that hold each thing once."""
    if not things:
        return [[]]
    told = []
    for rest in partitions(things[:-1]):
        told.append([*rest, [things[-1]]])
        told += [[*rest[:k], [*rest[k], things[-1]], *rest[k + 1:]] for k in range(len(rest))]
    return told


def holds_paper(judge, paper):
    """[20] word by word, of a paper that is a partition of the states that come."""
    if any(len({state in judge[5] for state in group}) > 1 for group in paper):
        return False
    for group, letter, row in product(paper, judge[0], rows_of(judge, coming_by_words(judge))):
        behind = [judge[4][letter, row_behind(judge, row, state)] for state in group]
        if not any(set(behind) <= set(one) for one in paper):
            return False
    return True


class PartingSurrounding(unittest.TestCase):
    def test_by_hand(self):
        for p, q in product(range(4), repeat=2):
            self.assertEqual(parting_surrounding(FOURS, p, q), None if (p + q) % 2 == 0 else [])
        self.assertIsNone(parting_surrounding(NO_B, 1, 2))
        self.assertEqual(parting_surrounding(NO_B, 0, 2), [])
        # Above a part of state 5 stands one of state 3, that is as a leaf.
        self.assertEqual(len(parting_surrounding(ODDLY, 1, 5)), 1)
        self.assertEqual(parting_surrounding(ODDLY, 5, 3), [])
        self.assertIsNone(parting_surrounding(ONE, 0, 0))
        told = parting_surrounding(MANY, 0, 1)
        self.assertEqual(len(told), 1)
        self.assertIs(parts(MANY, told, 0, 1), True)

    def test_how_many_tuples_it_takes(self):
        for p, q in product(range(6), repeat=2):
            told = parting_surrounding(DEPTHS, p, q)
            if p == q:
                self.assertIsNone(told)
            else:
                self.assertEqual(len(told), 5 - max(p, q))
                self.assertIs(parts(DEPTHS, told, p, q), True)

    def test_it_parts_the_two(self):
        parted = 0
        for judge in JUDGES:
            for p, q in product(coming_by_words(judge), repeat=2):
                told = parting_surrounding(judge, p, q)
                if told is not None:
                    parted += 1
                    self.assertIs(parts(judge, told, p, q), True)
                    behind = [state_behind(judge, told, state) in judge[5] for state in (p, q)]
                    self.assertNotEqual(*behind)
        self.assertGreater(parted, 200)

    def test_of_the_fewest_tuples_and_none_where_they_are_alike(self):
        for judge in JUDGES:
            fewest = parted_by_words(judge)
            for p, q in product(coming_by_words(judge), repeat=2):
                told = parting_surrounding(judge, p, q)
                self.assertEqual(None if told is None else len(told), fewest.get((p, q)))

    def test_all_surroundings_of_fewer_tuples_do_not_part_them(self):
        tried = [0, 0, 0]
        for judge in [*SMALL, *NAMED[:2]]:
            heaps = all_heaps(judge)
            if len(judge[0]) * len(heaps) > 40:
                continue
            for p, q in product(coming_by_words(judge), repeat=2):
                told = parting_surrounding(judge, p, q)
                for many in range(min(3, len(told) if told is not None else 2)):
                    tried[many] += 1
                    for surrounding in surroundings(judge, many, heaps):
                        self.assertEqual(
                            state_behind(judge, surrounding, p) in judge[5], state_behind(judge, surrounding, q) in judge[5],
                        )
        self.assertGreater(min(tried[:2]), 20)

    def test_it_is_a_surrounding_of_trees_of_states_that_come(self):
        for judge in JUDGES:
            for p, q in product(coming_by_words(judge), repeat=2):
                for letter, children in parting_surrounding(judge, p, q) or []:
                    self.assertIn(letter, judge[0])
                    for child in children:
                        self.assertIn(state_of(judge, child), coming_by_words(judge))

    def test_the_order_in_which_the_table_grew_does_not_matter(self):
        for judge in [*NAMED, *SMALL]:
            other = grown_otherwise(6, judge)
            for p, q in product(coming_by_words(judge), repeat=2):
                told, again = parting_surrounding(judge, p, q), parting_surrounding(other, p, q)
                self.assertEqual(told is None, again is None)
                if told is not None:
                    self.assertEqual(len(told), len(again))

    def test_no_number(self):
        for judge, none in [(ODDLY, [0, 2, 4, 6]), (NO_B, [3, 4]), (ONE, [1, 2]), (FOURS, [4]), (DEPTHS, [6])]:
            comes = coming_by_words(judge)[-1]
            for thing in [*NO_NUMBERS, *none]:
                for pair in [(thing, comes), (comes, thing), (thing, thing)]:
                    with self.subTest(thing=thing, pair=pair):
                        with self.assertRaises(NoNumber) as caught:
                            parting_surrounding(judge, *pair)
                        self.assertIsInstance(caught.exception, HeapError)

    def test_a_truth_is_no_state_though_the_number_comes(self):
        for pair in [(True, 0), (0, True), (False, 1), (1, False), (True, True), (True, False)]:
            with self.assertRaises(NoNumber):
                parting_surrounding(FOURS, *pair)


class StateBehind(unittest.TestCase):
    def test_by_hand(self):
        self.assertEqual(state_behind(FOURS, [], 3), 3)
        self.assertEqual(state_behind(FOURS, [("a", [])], 3), 0)
        self.assertEqual(state_behind(FOURS, [("a", [leaf("a")])], 3), 1)
        self.assertEqual(state_behind(FOURS, [("a", [leaf("a")]), ("a", [row_of("a", 2)])], 3), 0)
        self.assertEqual(state_behind(NO_B, [("a", [leaf("a")])], 2), 1)
        self.assertEqual(state_behind(NO_B, [("a", [leaf("b")]), ("b", [])], 0), 2)
        self.assertEqual(state_behind(NO_B, [("b", []), ("a", [])], 0), 1)
        self.assertEqual(state_behind(DEPTHS, [("a", [row_of("a", 4)])], 0), 4)
        self.assertEqual(state_behind(DEPTHS, [("a", [row_of("a", 2)])], 3), 4)

    def test_it_is_the_state_of_the_tree_put_there(self):
        for judge in [*NAMED, *SMALL[::4], *GREAT[-1:]]:
            trees = least_trees(judge)
            rows = [tree for size in range(1, 4) for tree in told_trees(size, judge[0][:2])]
            for surrounding in [[], *[[one] for one in rows], *[[one, other] for one, other in product(rows[::2], rows[::3])]]:
                for p in trees:
                    state = state_by_words(judge, put_into(surrounding, trees[p]))
                    self.assertEqual(state_behind(judge, surrounding, p), state)

    def test_thirty_tuples(self):
        surrounding = [("a", [leaf("a")] * (place % 5)) for place in range(30)]
        for judge in [FOURS, MANY, ODDLY]:
            for p, tree in least_trees(judge).items():
                self.assertEqual(state_behind(judge, surrounding, p), state_by_words(judge, put_into(surrounding, tree)))

    def test_numbers_of_children_far_beyond_the_classes(self):
        for many in range(60):
            surrounding = [("a", [*[leaf("a")] * many, leaf("b")])]
            told = state_behind(MANY, surrounding, 0)
            self.assertEqual(told, 2 if many + 1 >= 3 and (many + 1) % 3 == 0 else 0)

    def test_no_number_goes_first(self):
        for thing in [*NO_NUMBERS, 0, 2, 4]:
            for surrounding in [[], [leaf("a")], [leaf("b")], None, [None], [("b", [None])], (), "a"]:
                with self.subTest(thing=thing, surrounding=surrounding):
                    with self.assertRaises(NoNumber):
                        state_behind(ODDLY, surrounding, thing)

    def test_no_tree(self):
        rows = [[thing] for thing in NO_TREES] + [[leaf("a"), thing, leaf("b")] for thing in NO_TREES]
        others = [thing for thing in OTHER_KINDS if thing != []]
        for thing in [*rows, *others, leaf("a"), (leaf("a"),), ((),), {"a": []}, [leaf("a"), []]]:
            with self.subTest(thing):
                with self.assertRaises(NoTree) as caught:
                    state_behind(ODDLY, thing, 3)
                self.assertIsInstance(caught.exception, HeapError)

    def test_no_tree_goes_ahead_of_no_letter(self):
        for thing in NO_TREES:
            for surrounding in [[leaf("z"), thing], [thing, leaf("z")], [("z", [thing])], [("a", [leaf("z"), thing])]]:
                with self.subTest(surrounding):
                    with self.assertRaises(NoTree):
                        state_behind(ODDLY, surrounding, 3)

    def test_no_letter(self):
        for surrounding in [
            [leaf("b")], [("a", [leaf("b")])], [leaf("a"), leaf("b")], [leaf("b"), leaf("a")], [("b", [leaf("a")])],
            [leaf("a"), ("a", [leaf("a"), ("a", [leaf("z")])])],
        ]:
            with self.subTest(surrounding):
                with self.assertRaises(NoLetter) as caught:
                    state_behind(ODDLY, surrounding, 3)
                self.assertIsInstance(caught.exception, HeapError)
        with self.assertRaises(NoLetter):
            state_behind(NO_B, [("b", [leaf("a")]), ("c", [])], 0)

    def test_deeper_than_python_lets_calls_be(self):
        self.assertEqual(state_behind(FOURS, [("a", [row_of("a", 3000)])], 1), (1 + 3000 + 1) % 4)
        self.assertEqual(state_behind(FOURS, [leaf("a")] * 2000, 1), (1 + 2000) % 4)


class AlikePaper(unittest.TestCase):
    def test_by_hand(self):
        for judge, told in [
            (FOURS, [[0, 2], [1, 3]]), (NO_B, [[0], [1, 2]]), (DEPTHS, [[0], [1], [2], [3], [4], [5]]),
            (ODDLY, [[1], [3], [5]]), (MANY, [[0], [1], [2]]), (ONE, [[0]]), (changed(FOURS, 5, [1]), [[0], [1], [2], [3]]),
            (changed(FOURS, 5, []), [[0, 1, 2, 3]]), (changed(FOURS, 5, [0, 1, 2, 3]), [[0, 1, 2, 3]]),
            (changed(NO_B, 5, [3]), [[0, 1, 2]]), (changed(MANY, 5, []), [[0, 1, 2]]), (changed(ODDLY, 5, [0, 2, 4]), [[1, 3, 5]]),
            # Of depths, where just the third is let by, the ones behind it are alike.
            (changed(DEPTHS, 5, [2]), [[0], [1], [2], [3, 4, 5]]), (changed(DEPTHS, 5, [0]), [[0], [1, 2, 3, 4, 5]]),
        ]:
            self.assertEqual(alike_paper(judge), told)

    def test_it_is_the_coarsest(self):
        for judge in [*NAMED, *SMALL]:
            shown = [paper for paper in partitions(coming_by_words(judge)) if holds_paper(judge, paper)]
            told = alike_paper(judge)
            self.assertIn(told, shown)
            self.assertEqual([paper for paper in shown if len(paper) <= len(told)], [told])

    def test_two_states_are_in_one_list_just_where_they_are_alike(self):
        for judge in JUDGES:
            paper = alike_paper(judge)
            self.assertEqual(paper, groups_by_words(judge))
            group_at = {state: place for place, group in enumerate(paper) for state in group}
            for p, q in product(group_at, repeat=2):
                self.assertIs(parting_surrounding(judge, p, q) is None, group_at[p] == group_at[q])

    def test_of_a_least_judge_each_state_stands_alone(self):
        for judge in JUDGES:
            least = least_judge(judge)
            self.assertEqual(alike_paper(least), [[state] for state in range(least[1])])

    def test_the_order_in_which_the_table_grew_does_not_matter(self):
        for judge in JUDGES:
            self.assertEqual(alike_paper(grown_otherwise(5, judge)), alike_paper(judge))


class AlikeShows(unittest.TestCase):
    def test_by_hand(self):
        for paper, told in [
            ([[0, 2], [1, 3]], True), ([[0], [1], [2], [3]], True), ([[0, 2], [1], [3]], False), ([[0], [1, 3], [2]], False),
            ([[0, 1], [2, 3]], False), ([[0, 1, 2, 3]], False), ([], False), ([[]], False), ([[0, 2], [1, 3], []], False),
            ([[], [0, 2], [1, 3]], False), ([[1, 3], [0, 2]], False), ([[2, 0], [1, 3]], False), ([[0, 2], [3, 1]], False),
            ([[0, 2], [1, 3], [1, 3]], False), ([[0, 2, 2], [1, 3]], False), ([[0, 2], [1, 2, 3]], False),
            ([[0, 2], [1]], False), ([[0, 2]], False), ([[0, 2], [1, 3, 4]], False), ([[0, 2], [1, 3], [4]], False),
            ([[-1, 0, 2], [1, 3]], False), ([[0, 2], [1, 3], [10 ** 29]], False), ([[-1], [0, 2], [1, 3]], False),
        ]:
            with self.subTest(paper):
                self.assertIs(alike_shows(FOURS, paper), told)

    def test_states_that_do_not_come_stand_in_no_list(self):
        for paper, told in [
            ([[0], [1, 2]], True), ([[0], [1], [2]], True), ([[0], [1, 2], [3]], False), ([[0], [1, 2, 3]], False),
            ([[0, 3], [1, 2]], False), ([[0, 1], [2]], False), ([[0, 1, 2]], False), ([[0, 2], [1]], False),
        ]:
            self.assertIs(alike_shows(NO_B, paper), told)

    def test_by_words(self):
        shown = 0
        for judge in [*NAMED, *SMALL, *GREAT]:
            for paper in partitions(coming_by_words(judge)):
                self.assertIs(alike_shows(judge, paper), holds_paper(judge, paper))
                shown += holds_paper(judge, paper)
        self.assertGreater(shown, len(JUDGES))

    def test_the_told_one_and_what_is_made_of_it(self):
        for judge in JUDGES:
            paper = alike_paper(judge)
            self.assertIs(alike_shows(judge, paper), True)
            for k, group in enumerate(paper):
                rest = paper[:k] + paper[k + 1:]
                for one in range(k):
                    put_together = sorted([*rest[:one], sorted(rest[one] + group), *rest[one + 1:]])
                    self.assertIs(alike_shows(judge, put_together), False)
                for other in [
                    rest, [*rest, []], [*paper, []], [[], *paper], [*paper, group], sorted([*paper, group]), [*paper[:k], [], *paper[k + 1:]],
                    [*paper[:k], [*group, group[-1]], *paper[k + 1:]], [*paper[:k], [*group, judge[1]], *paper[k + 1:]],
                    [*paper[:k], group[1:], *paper[k + 1:]],
                ]:
                    self.assertIs(alike_shows(judge, other), False)
                if len(group) > 1:
                    self.assertIs(alike_shows(judge, [*paper[:k], group[::-1], *paper[k + 1:]]), False)
            if len(paper) > 1:
                self.assertIs(alike_shows(judge, paper[::-1]), False)
            self.assertIs(alike_shows(judge, [[state] for state in coming_by_words(judge)]), True)

    def test_truths_and_other_kinds(self):
        two = judge_by("ab", 2, 0, 1, lambda letter, row: int(letter == "b"), [1])
        self.assertIs(alike_shows(two, [[0], [1]]), True)
        for thing in [
            *OTHER_KINDS, [[False], [1]], [[0], [True]], [[False], [True]], [(0,), (1,)], ([0], [1]), {0: [0], 1: [1]},
            [[0], "1"], ["0", "1"], [0, 1], [[[0]], [[1]]], [[0], None], [[0], [None]], [{0: 0}, {1: 1}],
        ]:
            with self.subTest(thing):
                self.assertIs(alike_shows(two, thing), False)

    def test_three_thousand_lists(self):
        self.assertIs(alike_shows(ONE, [[0]] * 3000), False)
        self.assertIs(alike_shows(ONE, [[0], *[[]] * 2999]), False)
        self.assertIs(alike_shows(ONE, [[state] for state in range(3000)]), False)
        self.assertIs(alike_shows(ONE, [list(range(3000))]), False)


class OwnThings(unittest.TestCase):
    """[2]: nothing handed in is changed or kept, and what is told is the asker's own."""

    def test_what_is_handed_in_stays(self):
        for judge in JUDGES:
            paper = [[0, 2], [1], [], [1, 0]]
            surrounding = [("a", [leaf("a"), row_of("a", 2)]), ("a", [])]
            before = copy.deepcopy((judge, paper, surrounding))
            order = list(judge[4])
            comes = coming_by_words(judge)
            parting_surrounding(judge, comes[0], comes[-1])
            if "a" in judge[0]:
                state_behind(judge, surrounding, comes[0])
            alike_paper(judge)
            alike_shows(judge, paper)
            alike_shows(judge, [[state] for state in comes])
            self.assertEqual((judge, paper, surrounding), before)
            self.assertEqual(list(judge[4]), order)

    def test_what_is_told_is_new(self):
        for judge, p, q in [(DEPTHS, 0, 1), (DEPTHS, 3, 2), (MANY, 0, 1), (FOURS, 0, 1), (NO_B, 1, 2), (ODDLY, 3, 5)]:
            for ask in [lambda: parting_surrounding(judge, p, q), lambda: alike_paper(judge)]:
                check_told_anew(self, ask, judge)

    def test_told_things_are_of_the_kinds_told(self):
        told = parting_surrounding(MANY, 0, 1)
        self.assertEqual((type(told), type(told[0]), len(told[0])), (list, tuple, 2))
        self.assertEqual((type(told[0][0]), type(told[0][1]), type(told[0][1][0])), (str, list, tuple))
        paper = alike_paper(FOURS)
        self.assertEqual({type(paper), *map(type, paper)}, {list})
        self.assertEqual({type(state) for group in paper for state in group}, {int})
        self.assertIs(type(state_behind(FOURS, [], 1)), int)
        self.assertIs(type(alike_shows(FOURS, paper)), bool)


class OrderOfChildren(unittest.TestCase):
    """[4]: surroundings with their children in another order lead to the same state."""

    def test_it(self):
        for judge in [FOURS, MANY, ODDLY, *SMALL[:6]]:
            for tree in told_trees(4, judge[0]):
                for p in coming_by_words(judge):
                    asked = [shuffled(seed, tree) for seed in range(3)]
                    told = {state_behind(judge, [one, asked[0]], p) for one in asked}
                    self.assertEqual(told, {state_behind(judge, [tree, tree], p)})


if __name__ == "__main__":
    unittest.main()
