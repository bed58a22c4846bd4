"""[2], [3], [4], [15], [16]: judges held against one another."""

import copy
import unittest
from itertools import combinations, product
from math import lcm

from helpers import (
    OTHER_KINDS, chance_judge, changed, check_told_anew, class_by_words, grown_otherwise, judge_by,
    leaf, row_behind, row_of, shuffled, state_by_words, told_trees, written,
)
from heaptrees.errors import HeapError, NoFit
from heaptrees.joining import judges_joined, turned_judge
from heaptrees.judges import is_judge, lets_by
from heaptrees.trees import is_tree, size_of, told_form
from heaptrees.within import same_judges, within_shows, within_told

# Let by are trees of even size.
EVEN = judge_by("ab", 2, 0, 2, lambda letter, row: (1 + row[1]) % 2, [0])

# Let by are trees without a b.
NO_B = judge_by("ab", 2, 1, 1, lambda letter, row: int(letter == "b" or row[1] > 0), [0])

# Let by are trees with no b on top.
NO_TOP = judge_by("ab", 2, 0, 1, lambda letter, row: int(letter == "b"), [0])

# Let by are parts with two leaves at least; state 2 is a leaf.
LEAVES = judge_by("ab", 3, 2, 1, lambda letter, row: 2 if row == (0, 0, 0) else int(row[2] == 2), [1])

ONE = judge_by("a", 1, 0, 1, lambda letter, row: 0, [0])
ALL = judge_by("ab", 1, 0, 1, lambda letter, row: 0, [0])
NONE = judge_by("ab", 1, 4, 4, lambda letter, row: 0, [])

JUDGES = [
    EVEN, NO_B, NO_TOP, LEAVES, ALL, NONE, turned_judge(NO_B),
    judges_joined("both", EVEN, NO_B), judges_joined("either", NO_B, EVEN),
    *[chance_judge(seed, "ab", 2, few, turn) for seed, (few, turn) in enumerate(product((0, 1, 2), (1, 2)))],
    *[chance_judge(seed, "ab", 3, 0, 2) for seed in range(3)],
    *[chance_judge(seed, "ab", 1, 1, 3) for seed in range(2)],
]

SINGLE = [
    *[chance_judge(seed, "a", 2, few, turn) for seed, (few, turn) in enumerate(product((0, 1, 3), (1, 2, 3)))],
    *[chance_judge(seed, "a", 3, few, turn) for seed, (few, turn) in enumerate(product((0, 1), (1, 2, 4)))],
    *[chance_judge(seed, "a", 4, 1, 1) for seed in range(2)],
]


def counter(few, turn, number, good):
    """State 1 are parts that have children, all of state 0 and as many as the class says."""
    return judge_by("a", 2, few, turn, lambda letter, row: int(row == (number, 0)), good)


def level_judge(levels, few, turn, number, good):
    """The level of a tree, by turns of so many, whose parts but the leaves have children of one level.

    They are as many as the class says; each other tree has the last state.
    """
    def state(letter, row):
        found = [place for place, many in enumerate(row) if many]
        if not found:
            return 0
        fits = len(found) == 1 and found[0] < levels and row[found[0]] == number
        return (found[0] + 1) % levels if fits else levels
    return judge_by("a", levels + 1, few, turn, state, good)


# One lets by levels 1, 4, 7 .. of 1, 4, 7 .. children, the other all but levels 0, 2, 4 .. of 3, 5,
# 7 .. children: the first of both is level 4 of seven children. So with level 3 of six, 2 of six.
GREAT_TREES = [
    (2801, level_judge(3, 1, 3, 1, [1]), level_judge(2, 2, 2, 3, [1, 2])),
    (259, level_judge(3, 1, 3, 3, [0]), level_judge(2, 2, 2, 2, [0, 2])),
    (1555, level_judge(3, 1, 3, 3, [1]), level_judge(2, 2, 2, 2, [1, 2])),
]


def pair_sizes(one, other, most):
    """From each pair of states that a tree of at most so many parts has to the least size of one.

    Forests are put together child by child: of each size, the pairs of tuples of classes that come.
    """
    forests = [{((0,) * one[1], (0,) * other[1])}]
    sizes = {}
    for size in range(1, most + 1):
        for letter, (row, other_row) in product(one[0], forests[size - 1]):
            sizes.setdefault((one[4][letter, row], other[4][letter, other_row]), size)
        forests.append({
            (row_behind(one, row, pair[0]), row_behind(other, other_row, pair[1]))
            for pair, part in sizes.items() if part <= size
            for row, other_row in forests[size - part]
        })
    return sizes


def denying(one, other, pairs):
    return [pair for pair in pairs if pair[0] in one[5] and pair[1] not in other[5]]


def holds_paper(one, other, paper):
    """[15] word by word: of each pair as many children as any two classes can tell apart."""
    pairs = set(product(range(one[1]), range(other[1])))
    if paper != sorted(set(paper)) or not set(paper) <= pairs or denying(one, other, paper):
        return False
    most = max(one[2], other[2]) + lcm(one[3], other[3])
    for letter, numbers in product(one[0], product(range(most), repeat=len(paper))):
        pair = []
        for place, judge in enumerate((one, other)):
            row = [0] * judge[1]
            for many, child in zip(numbers, paper):
                row[child[place]] += many
            pair.append(judge[4][letter, tuple(class_by_words(many, judge[2], judge[3]) for many in row)])
        if tuple(pair) not in paper:
            return False
    return True


def all_pairs(one, other):
    return list(product(range(one[1]), range(other[1])))


def papers(one, other):
    pairs = all_pairs(one, other)
    return [list(row) for many in range(len(pairs) + 1) for row in combinations(pairs, many)]


class WithinTold(unittest.TestCase):
    def test_by_hand(self):
        self.assertEqual(within_told(NO_B, NO_TOP)[0], "within")
        self.assertEqual(within_told(NO_TOP, NO_B), ("not", ("a", [leaf("b")])))
        self.assertEqual(within_told(NO_B, EVEN), ("not", leaf("a")))
        self.assertIn(within_told(EVEN, NO_B), [("not", ("b", [leaf(x)])) for x in "ab"] + [("not", ("a", [leaf("b")]))])
        self.assertIn(within_told(LEAVES, EVEN), [
            ("not", (top, [leaf(x), leaf(y)])) for top, x, y in product("ab", repeat=3) if x <= y
        ])
        self.assertIn(within_told(ALL, NONE), [("not", leaf("a")), ("not", leaf("b"))])
        for judge in JUDGES:
            self.assertEqual(within_told(judge, ALL)[0], "within")
            self.assertEqual(within_told(NONE, judge)[0], "within")
            self.assertEqual(within_told(judge, judge)[0], "within")

    def test_against_all_small_trees(self):
        trees = [tree for size in range(1, 5) for tree in told_trees(size, "ab")]
        by = [[state_by_words(judge, tree) in judge[5] for tree in trees] for judge in JUDGES]
        for (one, ones), (other, others) in product(zip(JUDGES, by), repeat=2):
            found = [tree for tree, x, y in zip(trees, ones, others) if x and not y]
            word, told = within_told(one, other)
            if found:
                self.assertEqual(word, "not")
                self.assertEqual(size_of(told), size_of(found[0]))
            elif word == "not":
                self.assertGreater(size_of(told), 4)

    def test_against_forests_put_together(self):
        for one, other in [*product(SINGLE, repeat=2), *product(JUDGES[::2], JUDGES[1::2])]:
            sizes = pair_sizes(one, other, 25)
            denied = denying(one, other, sizes)
            word, told = within_told(one, other)
            self.assertEqual(word, "not" if denied else "within")
            if denied:
                self.assertEqual(size_of(told), min(sizes[pair] for pair in denied))
                self.assertIs(is_tree(told), True)
                self.assertIn(state_by_words(one, told), one[5])
                self.assertNotIn(state_by_words(other, told), other[5])
                self.assertEqual(told, told_form(told))
            else:
                self.assertIs(within_shows(one, other, told), True)
                self.assertLessEqual(set(sizes), set(told))

    def test_a_least_tree_of_each_pair_of_states(self):
        # Of the first ones some heap is reached first by a child of a small pair, lighter by a greater one.
        pairs = [
            *[(chance_judge(seed, "a", 3, 1, 1), chance_judge(seed + 7777, "a", 3, 1, 1)) for seed in (6, 118, 240)],
            *[(chance_judge(seed, "a", 2, 0, 3), chance_judge(seed + 7777, "a", 2, 1, 2)) for seed in (96, 201, 231)],
            *zip(SINGLE[::2], SINGLE[1::2]), *zip(JUDGES[4:], JUDGES[:-4]),
        ]
        for one, other in pairs:
            sizes = pair_sizes(one, other, 14)
            for (p, q), size in sizes.items():
                others = [state for state in range(other[1]) if state != q]
                told = within_told(changed(one, 5, [p]), changed(other, 5, others))
                self.assertEqual((told[0], size_of(told[1])), ("not", size))
                self.assertEqual((state_by_words(one, told[1]), state_by_words(other, told[1])), (p, q))

    def test_told_papers_hold_by_words(self):
        told = 0
        for one, other in product([judge for judge in JUDGES if judge[1] <= 2 and judge[2] <= 1], repeat=2):
            word, paper = within_told(one, other)
            if word == "within":
                told += 1
                self.assertTrue(holds_paper(one, other, paper))
        self.assertGreater(told, 20)

    def test_of_joined_and_turned_judges(self):
        for one, other in product(JUDGES[:5], repeat=2):
            if one[1] * other[1] > 4:
                continue
            both, either = judges_joined("both", one, other), judges_joined("either", one, other)
            for small, great in [(both, one), (both, other), (one, either), (other, either), (both, either)]:
                self.assertEqual(within_told(small, great)[0], "within")
            # One is within the other just where none is let by by it and the other one turned.
            none = judges_joined("both", one, turned_judge(other))
            self.assertEqual(within_told(one, other)[0], within_told(none, NONE)[0])

    def test_a_great_number_of_children(self):
        for one, other, many in [
            # 3, 7, 11 .. and 2, 5, 8, 11 ..
            (counter(1, 4, 3, [1]), counter(1, 3, 2, [0]), 11),
            # 7, 11, 15 .. and 6, 9, 12, 15 ..
            (counter(4, 4, 7, [1]), counter(4, 3, 6, [0]), 15),
            # 4, 8, 12 .. and 3, 6, 9, 12 ..
            (counter(1, 4, 4, [1]), counter(1, 3, 3, [0]), 12),
            (counter(4, 4, 7, [1]), counter(4, 1, 4, [0]), 7), (counter(1, 4, 1, [1]), counter(4, 1, 4, [0]), 5),
            (counter(3, 1, 2, [1]), counter(1, 1, 1, [0]), 2), (counter(1, 1, 1, [1]), counter(3, 2, 4, [0]), 4),
            # 7, 11 .. and 2; 3, 7, 11 .. and even numbers: none is both.
            (counter(4, 4, 7, [1]), counter(3, 1, 2, [0]), None), (counter(1, 4, 3, [1]), counter(1, 2, 2, [0]), None),
        ]:
            told = within_told(one, other)
            if many is None:
                self.assertEqual(told[0], "within")
                self.assertIs(within_shows(one, other, told[1]), True)
            else:
                self.assertEqual(told, ("not", ("a", [leaf("a")] * many)))
            self.assertIs(same_judges(one, turned_judge(other)), False)

    def test_a_deep_tree(self):
        five, four = level_judge(5, 1, 1, 1, [4]), level_judge(4, 1, 1, 1, [0, 1, 2, 4])
        # Levels 4, 9, 14, 19 .. and 3, 7, 11, 15, 19 ..
        self.assertEqual(within_told(five, four), ("not", row_of("a", 20)))
        self.assertEqual(within_told(four, five), ("not", leaf("a")))
        self.assertEqual(within_told(five, five)[0], "within")
        four, two = level_judge(4, 1, 1, 1, [3]), level_judge(2, 1, 1, 1, [1])
        self.assertEqual(within_told(four, two)[0], "within")
        self.assertEqual(within_told(two, four), ("not", row_of("a", 2)))
        self.assertEqual(within_told(changed(two, 5, [0]), level_judge(3, 1, 1, 1, [0, 1, 3])), ("not", row_of("a", 3)))

    def test_a_tree_of_many_parts(self):
        for size, one, other in GREAT_TREES:
            self.assertIs(is_judge(one), True)
            self.assertIs(is_judge(other), True)
            word, told = within_told(one, other)
            self.assertEqual(word, "not")
            self.assertEqual(size_of(told), size)
            self.assertIs(lets_by(one, told), True)
            self.assertIs(lets_by(other, told), False)
            self.assertEqual(written(told), written(told_form(told)))
            self.assertIs(same_judges(one, other), False)

    def test_a_tree_far_greater_than_can_be_told(self):
        # Level 19 of two children each: a million parts. Nothing is promised but of [16].
        one, other = level_judge(5, 1, 1, 1, [4]), level_judge(4, 1, 2, 2, [0, 1, 2, 4])
        with self.assertRaises(HeapError):
            within_told(one, other)
        self.assertIs(same_judges(one, other), False)
        self.assertIs(same_judges(other, one), False)
        self.assertIs(same_judges(judges_joined("both", one, ONE), one), True)

    def test_the_greatest_tables(self):
        for first, second in [
            (("a", 6, 1, 1), ("a", 5, 1, 2)), (("ab", 3, 4, 2), ("ab", 3, 1, 1)), (("a", 3, 4, 4), ("a", 5, 0, 2)),
            (("abcdefghijklm", 2, 1, 1), ("abcdefghijklm", 1, 4, 4)), (("a", 3, 1, 4), ("a", 3, 2, 3)),
        ]:
            one, other = chance_judge(3, *first), chance_judge(4, *second)
            self.assertLessEqual(len(one[4]) * len(other[4]), 16900)
            every = changed(one, 5, list(range(one[1]))), changed(other, 5, list(range(other[1])))
            word, paper = within_told(*every)
            self.assertEqual(word, "within")
            self.assertIs(within_shows(*every, paper), True)
            word, told = within_told(every[0], changed(other, 5, []))
            self.assertEqual((word, told[1]), ("not", []))

    def test_the_order_in_which_the_table_grew_does_not_matter(self):
        for one, other in product(SINGLE, SINGLE[::3]):
            word, told = within_told(one, other)
            again = within_told(grown_otherwise(1, one), grown_otherwise(2, other))
            self.assertEqual(again[0], word)
            if word == "not":
                self.assertEqual(size_of(again[1]), size_of(told))
            else:
                self.assertIs(within_shows(one, other, again[1]), True)


class WithinShows(unittest.TestCase):
    def test_by_hand(self):
        paper = within_told(NO_B, NO_TOP)[1]
        self.assertEqual(paper, [(0, 0), (1, 0), (1, 1)])
        for asked, told in [
            (paper, True), ([], False), ([(0, 0)], False), ([(0, 0), (1, 1)], False), ([(0, 0), (1, 0)], False),
            ([(1, 0), (1, 1)], False), ([(0, 0), (0, 1), (1, 0), (1, 1)], False), ([(1, 1), (1, 0), (0, 0)], False),
            ([(1, 0), (0, 0), (1, 1)], False), ([(0, 0), (0, 0), (1, 0), (1, 1)], False),
            ([(0, 0), (1, 0), (1, 1), (1, 1)], False), ([(0, 0), (1, 0), (1, 1), (2, 0)], False),
            ([(0, 0), (1, 0), (1, 1), (1, 2)], False), ([(-1, 0), (0, 0), (1, 0), (1, 1)], False),
            ([(0, -1), (0, 0), (1, 0), (1, 1)], False), ([(0, 0), (1, 0), (1, 1), (10 ** 29, 10 ** 29)], False),
        ]:
            with self.subTest(asked):
                self.assertIs(within_shows(NO_B, NO_TOP, asked), told)

    def test_pairs_that_no_tree_has_count(self):
        # Of the one a part with a child of state 1 is of state 1; no tree has one, as a leaf is 0.
        one = judge_by("a", 2, 1, 1, lambda letter, row: int(row[1] > 0), [1])
        other = judge_by("a", 2, 1, 1, lambda letter, row: int(row[1] > 0), [0])
        self.assertEqual([paper for paper in papers(one, other) if within_shows(one, other, paper)], [
            [(0, 0)], [(0, 0), (0, 1)], [(0, 0), (1, 0)],
        ])
        # With children of both (0, 1) and (1, 0) the pair (1, 1) comes, which denies it.
        self.assertIs(within_shows(one, other, [(0, 0), (0, 1), (1, 0)]), False)

    def test_by_words(self):
        judges = [judge for judge in JUDGES if judge[1] <= 2 and judge[2] <= 1 and judge[3] <= 2]
        for one, other in product(judges, repeat=2):
            for paper in papers(one, other):
                self.assertIs(within_shows(one, other, paper), holds_paper(one, other, paper))
        for one, other in [(SINGLE[0], SINGLE[9]), (SINGLE[9], SINGLE[1]), (SINGLE[3], SINGLE[12])]:
            for paper in papers(one, other):
                if len(paper) < 5:
                    self.assertIs(within_shows(one, other, paper), holds_paper(one, other, paper))

    def test_a_pair_more_or_less_turned_about_or_twice(self):
        for one, other in product(JUDGES[:9], repeat=2):
            word, paper = within_told(one, other)
            if word == "not":
                continue
            reached = list(pair_sizes(one, other, 12))
            for place, pair in enumerate(paper):
                less = paper[:place] + paper[place + 1:]
                if pair in reached:
                    self.assertIs(within_shows(one, other, less), False)
                self.assertIs(within_shows(one, other, [*paper[:place], pair, *paper[place:]]), False)
                self.assertIs(within_shows(one, other, [*paper, pair]), False)
            if len(paper) > 1:
                self.assertIs(within_shows(one, other, paper[::-1]), False)
            for pair in [(one[1], 0), (0, other[1]), (-1, 0), (0, -1), (one[1], other[1])]:
                self.assertIs(within_shows(one, other, sorted([*paper, pair])), False)
            for pair in denying(one, other, all_pairs(one, other)):
                self.assertIs(within_shows(one, other, sorted([*paper, pair])), False)

    def test_no_paper_shows_what_is_not_so(self):
        for one, other in product(JUDGES[:9], repeat=2):
            if len(all_pairs(one, other)) <= 4:
                shown = any(within_shows(one, other, paper) for paper in papers(one, other))
                self.assertIs(shown, not denying(one, other, pair_sizes(one, other, 12)))

    def test_the_empty_list_shows_nothing(self):
        for one, other in product(JUDGES, repeat=2):
            self.assertIs(within_shows(one, other, []), False)

    def test_truths_and_other_kinds(self):
        self.assertIs(within_shows(ALL, ALL, [(0, 0)]), True)
        for thing in [
            *OTHER_KINDS, ((0, 0),), {(0, 0): 0}, [[0, 0]], [(False, 0)], [(0, False)], [(0,)], [(0, 0, 0)], [0], [None],
            ["00"], [("0", "0")], [(None, 0)], [([0], 0)], [((0,), 0)],
        ]:
            with self.subTest(thing):
                self.assertIs(within_shows(ALL, ALL, thing), False)

    def test_three_thousand_pairs(self):
        self.assertIs(within_shows(ALL, ALL, [(0, 0)] * 3000), False)
        self.assertIs(within_shows(ALL, ALL, [(0, place) for place in range(3000)]), False)


class SameJudges(unittest.TestCase):
    def test_by_hand(self):
        other_numbers = judge_by("ab", 2, 1, 1, lambda letter, row: int(letter != "b" and row[0] == 0), [1])
        self.assertIs(same_judges(NO_B, other_numbers), True)
        twice = judge_by("ab", 3, 1, 1, lambda letter, row: 2 if row[1] or row[2] else int(letter == "b"), [0])
        self.assertIs(same_judges(NO_B, twice), True)
        self.assertIs(same_judges(NO_B, changed(twice, 5, [0, 2])), False)
        self.assertIs(same_judges(NO_B, changed(twice, 5, [0, 1])), False)
        unreached = judge_by("ab", 3, 1, 1, lambda letter, row: int(letter == "b" or row[1] > 0), [0])
        self.assertIs(same_judges(NO_B, unreached), True)
        self.assertIs(same_judges(NO_B, changed(unreached, 5, [0, 2])), True)
        more_told = judge_by("ab", 2, 3, 2, lambda letter, row: int(letter == "b" or row[1] > 0), [0])
        self.assertIs(same_judges(NO_B, more_told), True)
        for one, other in [(NO_B, NO_TOP), (NO_TOP, NO_B), (NO_B, EVEN), (NO_B, turned_judge(NO_B)), (ALL, NONE)]:
            self.assertIs(same_judges(one, other), False)
        self.assertIs(same_judges(counter(1, 4, 4, [1]), counter(1, 2, 2, [1])), False)
        self.assertIs(same_judges(ALL, changed(EVEN, 5, [0, 1])), True)
        self.assertIs(same_judges(NONE, changed(EVEN, 5, [])), True)

    def test_by_both_withins(self):
        for one, other in [*product(JUDGES, repeat=2), *product(SINGLE, repeat=2)]:
            both = within_told(one, other)[0] == "within" == within_told(other, one)[0]
            self.assertIs(same_judges(one, other), both)

    def test_turned_twice_and_joined_with_itself(self):
        for judge in JUDGES[:4]:
            self.assertIs(same_judges(judge, turned_judge(turned_judge(judge))), True)
            self.assertIs(same_judges(judge, turned_judge(judge)), False)
            if judge[1] == 2:
                for word in ("both", "either"):
                    self.assertIs(same_judges(judge, judges_joined(word, judge, judge)), True)
                self.assertIs(same_judges(judges_joined("both", judge, turned_judge(judge)), NONE), True)
                self.assertIs(same_judges(judges_joined("either", judge, turned_judge(judge)), ALL), True)


class Refused(unittest.TestCase):
    def test_no_fit(self):
        for one, other in [("a", "b"), ("a", "ab"), ("ab", "a"), ("ab", "ac"), ("ab", "b"), ("abc", "xyz")]:
            judges = [judge_by(letters, 1, 0, 1, lambda letter, row: 0, [0]) for letters in (one, other)]
            for function in (within_told, same_judges):
                with self.subTest(one=one, other=other, function=function):
                    with self.assertRaises(NoFit) as caught:
                        function(*judges)
                    self.assertIsInstance(caught.exception, HeapError)
            for paper in [[], [(0, 0)], [(0, 0), (0, 0)], [(5, 5)], [(1, 0), (0, 0)], [(-1, 10 ** 29)]]:
                with self.subTest(one=one, other=other, paper=paper):
                    with self.assertRaises(NoFit):
                        within_shows(*judges, paper)


class OwnThings(unittest.TestCase):
    """[2]: nothing handed in is changed or kept, and what is told is the asker's own."""

    def test_what_is_handed_in_stays(self):
        for one, other in product(JUDGES[:9], repeat=2):
            paper = [(0, 0), (1, 0), (0, 0)]
            before = copy.deepcopy((one, other, paper))
            orders = list(one[4]), list(other[4])
            within_told(one, other)
            within_shows(one, other, paper)
            same_judges(one, other)
            self.assertEqual((one, other, paper), before)
            self.assertEqual((list(one[4]), list(other[4])), orders)

    def test_what_is_told_is_new(self):
        pairs = [
            (NO_B, NO_TOP), (NO_TOP, NO_B), (ALL, EVEN), (level_judge(5, 1, 1, 1, [4]), level_judge(4, 1, 1, 1, [0])),
            (counter(1, 4, 3, [1]), counter(1, 3, 2, [0])), *[(one, other) for _, one, other in GREAT_TREES],
        ]
        for one, other in pairs:
            check_told_anew(self, lambda: within_told(one, other), (one, other))

    def test_one_child_twice_is_two_lists(self):
        told = within_told(counter(1, 4, 3, [1]), counter(1, 3, 2, [0]))[1]
        told[1][0][1].append(leaf("a"))
        self.assertEqual([size_of(child) for child in told[1]], [2] + [1] * 10)

    def test_told_things_are_of_the_kinds_told(self):
        told = within_told(NO_B, NO_TOP)
        self.assertEqual((type(told), type(told[0]), type(told[1])), (tuple, str, list))
        for pair in told[1]:
            self.assertEqual([type(pair), *map(type, pair)], [tuple, int, int])
        told = within_told(NO_TOP, NO_B)
        self.assertEqual((type(told), len(told), type(told[1]), type(told[1][1])), (tuple, 2, tuple, list))
        self.assertIs(type(same_judges(NO_B, NO_B)), bool)


class OrderOfChildren(unittest.TestCase):
    """[4]: the told tree tells the two judges apart in whatever order its children stand."""

    def test_it(self):
        for one, other in product(JUDGES[:9], repeat=2):
            word, told = within_told(one, other)
            for seed in range(3):
                if word == "not":
                    tree = shuffled(seed, told)
                    self.assertIs(lets_by(one, tree), True)
                    self.assertIs(lets_by(other, tree), False)


if __name__ == "__main__":
    unittest.main()
