"""[2], [3], [4], [21], [22]: trees counted by sizes, and small ones told."""

import copy
import unittest
from collections import Counter
from itertools import product

from helpers import (
    OTHER_KINDS, chance_judge, changed, check_told_anew, coming_by_words, grown_otherwise,
    judge_by, leaf, row_of, state_by_words, told_trees, written,
)
from heaptrees.countedtrees import count_let_by, count_of, trees_let_by
from heaptrees.errors import HeapError, NoNumber, TooMany
from heaptrees.joining import judges_joined, turned_judge
from heaptrees.judges import lets_by
from heaptrees.leastjudge import least_judge
from heaptrees.texts import read_judge
from heaptrees.trees import told_form

LETTERS = "abcdefghijklmnopqrstuvwxyz"

# Heaptrees of one letter, of two and of three, by size from 1 on.
ONE_LETTER = [
    1, 1, 2, 4, 9, 20, 48, 115, 286, 719, 1842, 4766, 12486, 32973, 87811, 235381, 634847, 1721159, 4688676,
    12826228, 35221832, 97055181, 268282855, 743724984,
]
TWO_LETTERS = [2, 4, 14, 52, 214, 916, 4116, 18996, 89894, 433196, 2119904, 10503612]
THREE_LETTERS = [3, 9, 45, 246, 1485, 9432]

EVEN = judge_by("a", 2, 0, 2, lambda letter, row: (1 + row[1]) % 2, [0])
NO_B = judge_by("ab", 2, 1, 1, lambda letter, row: int(letter == "b" or row[1] > 0), [0])
ALL = judge_by("a", 1, 0, 1, lambda letter, row: 0, [0])

# State 2 has children of state 0 alone, by threes from two on; 3 never comes.
TURNS = judge_by("ab", 4, 2, 1, lambda letter, row: 3 if row[3] else 2 if row == (2, 0, 0, 0) else int(letter == "b"), [2])

SINGLE = [
    EVEN, ALL, *[chance_judge(seed, "a", *row) for seed in range(2) for row in product((2, 3), (0, 1, 2), (1, 2, 3))],
    chance_judge(1, "a", 6, 1, 1), chance_judge(2, "a", 5, 0, 3), chance_judge(3, "a", 3, 4, 4), chance_judge(4, "a", 2, 4, 4),
]

DOUBLE = [NO_B, TURNS, *[chance_judge(seed, "ab", *row) for seed in range(2) for row in product((1, 2, 3), (0, 1), (1, 2))]]

GREAT = [
    chance_judge(1, "a", 3, 4, 4), chance_judge(2, "abcdefghi", 6, 1, 1), chance_judge(3, "ab", 5, 1, 2),
    chance_judge(4, LETTERS, 2, 0, 4), chance_judge(5, LETTERS[:24], 2, 4, 1), chance_judge(6, LETTERS, 4, 1, 1),
    chance_judge(7, "abcdefghi", 2, 4, 4), chance_judge(8, LETTERS, 1, 4, 4),
]

NO_SIZES = [
    *[thing for thing in OTHER_KINDS if not (type(thing) is int and thing == 1)], 0, -1, -24, 10 ** 29, "1", "7", b"1", [1], (1,),
]

# Of size 7 just two thousand are let by, and two thousand and one.
EDGES = [
    ("ab 2 2 1 1 011010100011000010", 2000), ("ab 3 1 1 0,1 2001202112222000", 2000),
    ("ab 3 1 1 0,1 0122211222201110", 2001), ("ab 2 1 2 1 011101100000100000", 2001),
]


def root_judge(below, tops):
    """Let by are trees with one of the letters on top and such ones as stand below everywhere else."""
    def state(letter, row):
        if row[2] or row[3]:
            return 3
        if letter in below:
            return int(letter in tops)
        return 2 if letter in tops else 3
    return judge_by(LETTERS, 4, 1, 1, state, [1, 2])


class CountOf(unittest.TestCase):
    def test_by_hand(self):
        self.assertEqual([count_of(EVEN, size, 0) for size in range(1, 7)], [0, 1, 0, 4, 0, 20])
        self.assertEqual([count_of(EVEN, size, 1) for size in range(1, 7)], [1, 0, 2, 0, 9, 0])
        self.assertEqual([count_of(NO_B, size, 0) for size in range(1, 7)], ONE_LETTER[:6])
        # Of size three state 2 has two leaves a, below an a or a b.
        self.assertEqual([count_of(TURNS, 3, state) for state in range(4)], [6, 6, 2, 0])

    def test_against_all_small_trees(self):
        for letters, judges, most in [("a", SINGLE, 7), ("ab", DOUBLE, 5)]:
            for size in range(1, most + 1):
                trees = told_trees(size, letters)
                for judge in judges:
                    found = Counter(state_by_words(judge, tree) for tree in trees)
                    for state in range(judge[1]):
                        self.assertEqual(count_of(judge, size, state), found[state])
                    self.assertEqual(count_let_by(judge, size), sum(found[state] for state in judge[5]))

    def test_sums_of_all_states_are_the_numbers_of_trees(self):
        for judges, numbers in [
            (SINGLE, ONE_LETTER), (DOUBLE, TWO_LETTERS), ([chance_judge(1, "abc", 3, 1, 1)], THREE_LETTERS),
            ([chance_judge(9, "abc", 2, 0, 4)], THREE_LETTERS),
        ]:
            for judge in judges:
                for size, number in enumerate(numbers, 1):
                    if size in (1, 2, 7, len(numbers) - 1, len(numbers)) or judge in judges[:3]:
                        self.assertEqual(sum(count_of(judge, size, state) for state in range(judge[1])), number)

    def test_one_state_for_all(self):
        for size, number in enumerate(ONE_LETTER, 1):
            for few, turn in [(0, 1), (4, 4), (2, 3), (0, 4), (4, 1)]:
                judge = judge_by("q", 1, few, turn, lambda letter, row: 0, [0])
                self.assertEqual(count_of(judge, size, 0), number)
                self.assertEqual(count_let_by(judge, size), number)

    def test_a_state_that_does_not_come(self):
        for judge in [TURNS, judge_by("a", 6, 0, 2, lambda letter, row: 3, [0, 3])]:
            for state in range(judge[1]):
                if state not in coming_by_words(judge):
                    self.assertEqual({count_of(judge, size, state) for size in range(1, 25)}, {0})

    def test_the_greatest_tables_at_size_twenty_four(self):
        for judge in GREAT:
            many = len(judge[0])
            told = sum(count_of(judge, 24, state) for state in range(judge[1]))
            self.assertEqual(told, count_of(judge_by(judge[0], 1, 0, 1, lambda letter, row: 0, [0]), 24, 0))
            self.assertGreaterEqual(told, many ** 24 * (ONE_LETTER[-1] if many == 1 else 1))
            self.assertEqual(count_let_by(judge, 24), sum(count_of(judge, 24, state) for state in judge[5]))

    def test_broad_trees_by_turns(self):
        # Let by are leaves below one part, by turns: of each size one such tree.
        judge = judge_by("a", 3, 1, 4, lambda letter, row: 0 if sum(row) == 0 else 1 if row[1:] == (0, 0) and row[0] == 3 else 2, [1])
        self.assertEqual([count_let_by(judge, size) for size in range(1, 25)], [int(size % 4 == 0) for size in range(1, 25)])

    def test_no_number_for_what_is_no_size(self):
        for thing in [*NO_SIZES, 25, 26, 10 ** 6]:
            for judge in (EVEN, TURNS):
                for ask in [lambda: count_of(judge, thing, 0), lambda: count_let_by(judge, thing), lambda: count_of(judge, thing, None)]:
                    with self.subTest(thing):
                        with self.assertRaises(NoNumber) as caught:
                            ask()
                        self.assertIsInstance(caught.exception, HeapError)

    def test_no_number_for_what_is_no_state(self):
        for thing in [*[thing for thing in OTHER_KINDS if type(thing) is not int or thing not in (0, 1)], -1, 2, 3, 6, "0", [0], (0,)]:
            for size in (1, 24, 25, None):
                with self.subTest(thing):
                    with self.assertRaises(NoNumber):
                        count_of(EVEN, size, thing)
        self.assertEqual(count_of(TURNS, 1, 3), 0)
        with self.assertRaises(NoNumber):
            count_of(TURNS, 1, 4)

    def test_sizes_at_the_edges(self):
        self.assertEqual((count_of(EVEN, 1, 1), count_of(EVEN, 1, 0)), (1, 0))
        self.assertEqual((count_of(EVEN, 24, 0), count_of(EVEN, 24, 1)), (ONE_LETTER[-1], 0))
        self.assertEqual((count_of(EVEN, 23, 0), count_of(EVEN, 23, 1)), (0, ONE_LETTER[-2]))

    def test_truths_are_no_numbers(self):
        for size, state in [(True, 0), (False, 0), (1, True), (1, False), (True, True)]:
            with self.assertRaises(NoNumber):
                count_of(EVEN, size, state)
        for thing in (True, False):
            with self.assertRaises(NoNumber):
                count_let_by(EVEN, thing)
            with self.assertRaises(NoNumber):
                trees_let_by(EVEN, thing)

    def test_of_judges_turned_joined_and_made_least(self):
        for judge in [*SINGLE[::3], *DOUBLE[::3]]:
            for size in (1, 2, 5, 11):
                all_trees = (ONE_LETTER if len(judge[0]) == 1 else TWO_LETTERS)[size - 1]
                self.assertEqual(count_let_by(judge, size) + count_let_by(turned_judge(judge), size), all_trees)
                self.assertEqual(count_let_by(least_judge(judge), size), count_let_by(judge, size))
                if judge[1] == 2 and judge[2] + judge[3] < 5:
                    other = judge_by(judge[0], 2, 0, 2, lambda letter, row: (1 + row[1]) % 2, [0])
                    both, either = judges_joined("both", judge, other), judges_joined("either", judge, other)
                    self.assertEqual(
                        count_let_by(both, size) + count_let_by(either, size), count_let_by(judge, size) + count_let_by(other, size),
                    )


class TreesLetBy(unittest.TestCase):
    def test_by_hand(self):
        a = leaf("a")
        self.assertEqual(trees_let_by(ALL, 1), [a])
        self.assertEqual(trees_let_by(ALL, 3), [row_of("a", 3), ("a", [a, a])])
        self.assertEqual(
            trees_let_by(EVEN, 4),
            [row_of("a", 4), ("a", [("a", [a, a])]), ("a", [a, row_of("a", 2)]), ("a", [a, a, a])],
        )
        self.assertEqual(trees_let_by(EVEN, 3), [])
        self.assertEqual(trees_let_by(TURNS, 3), [("a", [a, a]), ("b", [a, a])])
        self.assertEqual(trees_let_by(changed(TURNS, 5, []), 7), [])
        self.assertEqual(trees_let_by(changed(TURNS, 5, [3]), 7), [])

    def test_against_all_small_trees(self):
        for letters, judges, most in [("a", SINGLE, 7), ("ab", DOUBLE, 5)]:
            for size in range(1, most + 1):
                trees = sorted([told_form(tree) for tree in told_trees(size, letters)], key=written)
                for judge in judges:
                    due = [tree for tree in trees if state_by_words(judge, tree) in judge[5]]
                    self.assertEqual(trees_let_by(judge, size), due)

    def test_sorted_once_in_told_form_and_as_many_as_counted(self):
        asked = [(read_judge(text), 7) for text, _ in EDGES[:2]] + [(root_judge("abcdefgh", LETTERS[6:]), 3)]
        asked += [(chance_judge(seed, "a", 6, 1, 1), 7) for seed in range(4)] + [(chance_judge(seed, "abc", 3, 1, 1), 5) for seed in range(4)]
        for judge, size in asked:
            told = trees_let_by(judge, size)
            writings = [written(tree) for tree in told]
            self.assertEqual(writings, sorted(set(writings)))
            self.assertEqual(len(told), count_let_by(judge, size))
            for tree in told:
                self.assertEqual(tree, told_form(tree))
                self.assertIn(state_by_words(judge, tree), judge[5])

    def test_just_two_thousand_and_one_more(self):
        for text, many in EDGES:
            judge = read_judge(text)
            self.assertEqual(count_let_by(judge, 7), many)
            if many == 2000:
                self.assertEqual(len(trees_let_by(judge, 7)), 2000)
            else:
                with self.assertRaises(TooMany) as caught:
                    trees_let_by(judge, 7)
                self.assertIsInstance(caught.exception, HeapError)
        # Twenty letters on top, and eight below: 64 rows of two and 36 pairs of leaves.
        self.assertEqual(len(trees_let_by(root_judge("abcdefgh", LETTERS[6:]), 3)), 2000)
        for below, tops in [("abcdefgh", LETTERS[5:]), ("abcdefghi", LETTERS[6:])]:
            with self.assertRaises(TooMany):
                trees_let_by(root_judge(below, tops), 3)

    def test_twenty_six_letters(self):
        every = judge_by(LETTERS, 2, 0, 4, lambda letter, row: row[0] % 2, [0, 1])
        for size in (4, 5, 6, 7):
            with self.assertRaises(TooMany):
                trees_let_by(every, size)
        self.assertEqual(len(trees_let_by(every, 2)), 676)
        # Of very many trees few are let by: below the one on top stand no other letters than a.
        self.assertEqual(len(trees_let_by(root_judge("a", LETTERS), 7)), 26 * 48)
        self.assertEqual(len(trees_let_by(root_judge("a", "b"), 7)), 48)
        self.assertEqual(len(trees_let_by(root_judge("a", "a"), 7)), 48)

    def test_many_states_of_which_few_are_let_by(self):
        # Let by are five levels of like parts: of size seven with three leaves, or with two rows of two.
        judge = judge_by("a", 6, 1, 1, lambda letter, row: 5 if sum(row) >= 2 else row.index(1) + 1 if 1 in row[:4] else 0, [4])
        self.assertEqual([count_let_by(judge, size) for size in range(1, 8)], [0, 0, 0, 0, 1, 1, 2])
        for size in range(1, 8):
            self.assertEqual(len(trees_let_by(judge, size)), count_let_by(judge, size))

    def test_no_number_goes_ahead_of_too_many(self):
        every = judge_by(LETTERS, 2, 0, 4, lambda letter, row: row[0] % 2, [0, 1])
        for thing in [*NO_SIZES, 8, 9, 24, 25]:
            for judge in (ALL, every):
                with self.subTest(thing):
                    with self.assertRaises(NoNumber) as caught:
                        trees_let_by(judge, thing)
                    self.assertIsInstance(caught.exception, HeapError)
        self.assertEqual(len(trees_let_by(ALL, 7)), 48)

    def test_the_order_in_which_the_table_grew_does_not_matter(self):
        for judge in [*SINGLE, *DOUBLE]:
            other = grown_otherwise(8, judge)
            self.assertEqual(trees_let_by(other, 5), trees_let_by(judge, 5))
            self.assertEqual(count_let_by(other, 12), count_let_by(judge, 12))


class OwnThings(unittest.TestCase):
    """[2]: nothing handed in is changed or kept, and what is told is the asker's own."""

    def test_what_is_handed_in_stays(self):
        for judge in [*SINGLE, *DOUBLE]:
            before = copy.deepcopy(judge)
            order = list(judge[4])
            count_of(judge, 6, 0)
            count_let_by(judge, 6)
            trees_let_by(judge, 5)
            self.assertEqual(judge, before)
            self.assertEqual(list(judge[4]), order)

    def test_what_is_told_is_new(self):
        for judge, size in [(ALL, 7), (EVEN, 6), (TURNS, 6), (NO_B, 7), (ALL, 1)]:
            check_told_anew(self, lambda: trees_let_by(judge, size), judge)

    def test_told_things_are_of_the_kinds_told(self):
        self.assertIs(type(count_of(EVEN, 5, 0)), int)
        self.assertIs(type(count_let_by(EVEN, 5)), int)
        self.assertIs(type(count_let_by(changed(EVEN, 5, []), 5)), int)
        told = trees_let_by(EVEN, 2)
        self.assertEqual((type(told), type(told[0]), type(told[0][1])), (list, tuple, list))
        self.assertTrue(all(lets_by(EVEN, tree) for tree in told))


if __name__ == "__main__":
    unittest.main()
