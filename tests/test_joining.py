"""[2], [3], [4], [12]: judges turned and joined."""

import copy
import unittest
from itertools import product
from math import lcm

from helpers import (
    all_unlike, chance_judge, changed, judge_by, leaf, row_of, share_any, told_trees, wide_trees,
)
from heaptrees.errors import HeapError, NoFit, TooMany
from heaptrees.joining import judges_joined, turned_judge
from heaptrees.judges import is_judge, lets_by

LETTERS = "abcdefghijklmnopqrstuvwxyz"
TREES = [tree for size in range(1, 7) for tree in told_trees(size, "ab")] + wide_trees("ab")

# Let by are trees of even size.
EVEN = judge_by("ab", 2, 0, 2, lambda letter, row: (1 + row[1]) % 2, [0])

# Let by are trees without a b.
NO_B = judge_by("ab", 2, 1, 1, lambda letter, row: int(letter == "b" or row[1] > 0), [0])

# Let by are parts with three, six, nine .. children.
THREES = judge_by("ab", 2, 1, 3, lambda letter, row: int((row[0] + row[1]) % 3 == 0 and sum(row) > 0), [1])

# State 1 has two leaves at least, state 2 is a leaf.
LEAVES = judge_by("ab", 3, 2, 1, lambda letter, row: 2 if row == (0, 0, 0) else int(row[2] == 2), [1])

JUDGES = [
    EVEN, NO_B, THREES, LEAVES,
    *[chance_judge(seed, "ab", 2, few, turn) for seed, (few, turn) in enumerate(product((0, 1, 3), (1, 2, 4)))],
    *[chance_judge(seed, "ab", 3, few, turn) for seed, (few, turn) in enumerate(product((0, 1), (1, 2)))],
    chance_judge(1, "ab", 1, 4, 4), chance_judge(2, "ab", 1, 2, 3), chance_judge(3, "ab", 6, 1, 1),
    changed(EVEN, 5, []), changed(EVEN, 5, [0, 1]),
]


def plain_judge(many, states, few, turn):
    """A judge of so many letters."""
    return judge_by(LETTERS[:many], states, few, turn, lambda letter, row: sum(row) % states, [0])


def is_too_great(one, other):
    """[12] word by word: whether joining the two is refused with TooMany."""
    states, turn = one[1] * other[1], lcm(one[3], other[3])
    due = len(one[0]) * (max(one[2], other[2]) + turn) ** states
    return states > 6 or turn > 4 or due > 600


class Turned(unittest.TestCase):
    def test_by_hand(self):
        for good, told in [
            ([], [0, 1, 2]), ([0], [1, 2]), ([1], [0, 2]), ([0, 2], [1]), ([1, 2], [0]), ([0, 1, 2], []),
        ]:
            judge = changed(LEAVES, 5, good)
            self.assertEqual(turned_judge(judge), changed(LEAVES, 5, told))

    def test_it_lets_by_just_the_other_trees(self):
        for judge in JUDGES:
            told = turned_judge(judge)
            self.assertIs(is_judge(told), True)
            self.assertEqual(told[:5], judge[:5])
            for tree in TREES:
                self.assertIs(lets_by(told, tree), not lets_by(judge, tree))

    def test_turned_twice(self):
        for judge in JUDGES:
            self.assertEqual(turned_judge(turned_judge(judge)), judge)


class Joined(unittest.TestCase):
    def test_by_hand(self):
        a, b = leaf("a"), leaf("b")
        both, either = judges_joined("both", EVEN, NO_B), judges_joined("either", EVEN, NO_B)
        for tree, even, no_b in [
            (a, False, True), (b, False, False), (row_of("a", 2), True, True), (row_of("b", 2), True, False),
            (("a", [a, a]), False, True), (("a", [b, a]), False, False), (("a", [a, row_of("a", 2)]), True, True),
            (("a", [a, ("a", [b])]), True, False), (("a", [a] * 59), True, True), (("a", [*[a] * 58, b]), True, False),
            (("a", [a] * 58), False, True),
        ]:
            with self.subTest(tree):
                self.assertIs(lets_by(both, tree), even and no_b)
                self.assertIs(lets_by(either, tree), even or no_b)

    def test_trees_let_by(self):
        made = 0
        for one, other in product(JUDGES, repeat=2):
            if is_too_great(one, other):
                continue
            made += 1
            both, either = judges_joined("both", one, other), judges_joined("either", one, other)
            for tree in TREES[made % 7::7]:
                by_one, by_other = lets_by(one, tree), lets_by(other, tree)
                self.assertIs(lets_by(both, tree), by_one and by_other)
                self.assertIs(lets_by(either, tree), by_one or by_other)
        self.assertGreater(made, 100)

    def test_what_is_told_is_a_judge_within_the_bounds(self):
        for one, other in product(JUDGES, repeat=2):
            for word in ("both", "either"):
                if is_too_great(one, other):
                    with self.assertRaises(TooMany):
                        judges_joined(word, one, other)
                else:
                    told = judges_joined(word, one, other)
                    self.assertIs(is_judge(told), True)
                    self.assertEqual(told[0], one[0])
                    self.assertLessEqual(told[1], one[1] * other[1])
                    self.assertLessEqual(told[2], max(one[2], other[2]))
                    self.assertLessEqual(told[3], lcm(one[3], other[3]))

    def test_what_was_joined_is_joined_and_turned_again(self):
        nothing = judge_by("ab", 1, 1, 1, lambda letter, row: 0, [])
        none = judges_joined("either", judges_joined("both", EVEN, turned_judge(EVEN)), nothing)
        self.assertFalse(any(lets_by(none, tree) for tree in TREES))
        self.assertTrue(all(lets_by(turned_judge(none), tree) for tree in TREES))

    def test_not_both_is_either_of_the_turned_ones(self):
        one = turned_judge(judges_joined("both", NO_B, EVEN))
        other = judges_joined("either", turned_judge(NO_B), turned_judge(EVEN))
        for tree in TREES:
            self.assertIs(lets_by(one, tree), lets_by(other, tree))


class Refused(unittest.TestCase):
    def test_no_fit(self):
        for one, other in [("a", "b"), ("a", "ab"), ("ab", "a"), ("ab", "ac"), ("ac", "bc"), (LETTERS, LETTERS[1:])]:
            for word in ("both", "either"):
                with self.subTest(one=one, other=other):
                    judges = [judge_by(letters, 1, 0, 1, lambda letter, row: 0, [0]) for letters in (one, other)]
                    with self.assertRaises(NoFit) as caught:
                        judges_joined(word, *judges)
                    self.assertIsInstance(caught.exception, HeapError)

    def test_no_fit_stands_ahead_of_too_many(self):
        for many, first, second in [
            (1, (3, 0, 1), (3, 0, 1)), (1, (1, 0, 3), (1, 0, 4)), (24, (2, 4, 1), (1, 0, 2)), (1, (2, 0, 3), (4, 0, 4)),
        ]:
            one, other = plain_judge(many, *first), plain_judge(many, *second)
            for word in ("both", "either"):
                with self.assertRaises(TooMany):
                    judges_joined(word, one, other)
                other_letters = judge_by("z", *second, lambda letter, row: 0, [0])
                for pair in [(one, other_letters), (other_letters, one)]:
                    with self.assertRaises(NoFit):
                        judges_joined(word, *pair)

    def test_just_at_each_bound(self):
        for many, first, second in [
            # Six states.
            (1, (2, 0, 1), (3, 0, 1)), (1, (6, 0, 1), (1, 0, 1)), (26, (3, 0, 1), (2, 0, 1)),
            # A turn of four.
            (1, (1, 0, 4), (1, 0, 2)), (1, (2, 0, 2), (1, 1, 4)), (1, (1, 0, 3), (1, 0, 3)), (1, (1, 4, 4), (1, 4, 1)),
            # Tables of 600, 600, 576, 500, 512 and 512 tuples.
            (24, (2, 0, 4), (1, 1, 1)), (24, (2, 4, 1), (1, 3, 1)), (9, (2, 1, 1), (3, 0, 1)),
            (4, (3, 3, 2), (1, 2, 1)), (2, (2, 2, 2), (2, 0, 1)), (8, (2, 4, 4), (1, 4, 2)),
        ]:
            one, other = plain_judge(many, *first), plain_judge(many, *second)
            for pair in [(one, other), (other, one)]:
                for word in ("both", "either"):
                    with self.subTest(many=many, first=first, second=second):
                        self.assertIs(is_judge(judges_joined(word, *pair)), True)

    def test_just_beyond_each_bound(self):
        for many, first, second in [
            # Eight states, and nine.
            (1, (2, 0, 1), (4, 0, 1)), (1, (3, 0, 1), (3, 0, 1)), (1, (6, 0, 1), (2, 0, 1)), (1, (6, 0, 1), (6, 0, 1)),
            # A turn of six, and of twelve.
            (1, (1, 0, 2), (1, 0, 3)), (1, (1, 0, 4), (1, 0, 3)), (1, (2, 1, 3), (1, 1, 2)),
            # Tables of 625, 640, 625, 1024 and 648 tuples.
            (25, (2, 0, 4), (1, 1, 1)), (10, (2, 1, 1), (3, 0, 1)), (1, (2, 4, 1), (2, 0, 1)),
            (4, (2, 0, 4), (2, 0, 2)), (3, (3, 4, 1), (1, 0, 2)),
        ]:
            one, other = plain_judge(many, *first), plain_judge(many, *second)
            for pair in [(one, other), (other, one)]:
                for word in ("both", "either"):
                    with self.subTest(many=many, first=first, second=second):
                        with self.assertRaises(TooMany) as caught:
                            judges_joined(word, *pair)
                        self.assertIsInstance(caught.exception, HeapError)


class OwnThings(unittest.TestCase):
    """[2]: nothing handed in is changed or kept, and what is told is the asker's own."""

    def test_what_is_handed_in_stays(self):
        before = copy.deepcopy(JUDGES)
        for judge in JUDGES:
            order = list(judge[4])
            turned_judge(judge)
            for word, pair in product(("both", "either"), [(judge, EVEN), (EVEN, judge), (judge, judge)]):
                if not is_too_great(*pair):
                    judges_joined(word, *pair)
            self.assertEqual(list(judge[4]), order)
        self.assertEqual(JUDGES, before)

    def test_what_is_refused_stays(self):
        great, unlike = plain_judge(2, 6, 0, 1), plain_judge(1, 2, 0, 1)
        before = copy.deepcopy((great, unlike, EVEN))
        with self.assertRaises(TooMany):
            judges_joined("both", great, EVEN)
        with self.assertRaises(NoFit):
            judges_joined("both", unlike, EVEN)
        self.assertEqual((great, unlike, EVEN), before)

    def test_what_is_told_is_new(self):
        everything, nothing = changed(EVEN, 5, [0, 1]), changed(EVEN, 5, [])
        for judge in [EVEN, everything, nothing]:
            for make in [
                lambda: turned_judge(judge), lambda: judges_joined("both", judge, judge),
                lambda: judges_joined("either", judge, NO_B),
            ]:
                told = [make(), make()]
                before = copy.deepcopy(told[0])
                self.assertTrue(all_unlike(*told))
                self.assertFalse(share_any(told, (EVEN, everything, nothing, NO_B)))
                told[0][4].clear()
                told[0][5].append(0)
                self.assertEqual(told[1], before)
                self.assertEqual(make(), before)

    def test_told_things_are_of_the_kinds_told(self):
        for told in [turned_judge(LEAVES), judges_joined("both", THREES, NO_B), judges_joined("either", EVEN, NO_B)]:
            self.assertIs(type(told), tuple)
            self.assertEqual([type(one) for one in told], [str, int, int, int, dict, list])


if __name__ == "__main__":
    unittest.main()
