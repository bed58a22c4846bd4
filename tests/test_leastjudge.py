"""[2], [3], [4], [17], [18]: trees put into surroundings, and judges made least."""

import copy
import unittest
from itertools import permutations, product

from helpers import (
    NO_TREES, OTHER_KINDS, chance_judge, changed, check_told_anew, coming_by_words,
    groups_by_words, grown_otherwise, judge_by, leaf, parted_by_words, row_of, shuffled,
    state_by_words, told_trees, trees_up_to,
)
from heaptrees.errors import HeapError, NoFit, NoTree
from heaptrees.joining import judges_joined, turned_judge
from heaptrees.judges import is_judge, lets_by, state_of
from heaptrees.leastjudge import least_judge, put_into, renamed
from heaptrees.trees import depth_of
from heaptrees.within import same_judges

# Let by are trees of even size.
EVEN = judge_by("a", 2, 0, 2, lambda letter, row: (1 + row[1]) % 2, [0])

# Sizes by fours, of which the even ones are let by: 0 and 2 are alike, 1 and 3.
FOURS = judge_by("a", 4, 0, 4, lambda letter, row: (1 + row[1] + 2 * row[2] + 3 * row[3]) % 4, [0, 2])

# States 1 and 2 are trees with a b, 2 with one on top: alike. State 3 never comes.
NO_B = judge_by(
    "ab", 4, 1, 1,
    lambda letter, row: 3 if row[3] else 2 if letter == "b" else 1 if row[1] or row[2] else 0,
    [0],
)

# The depth up to four; let by is depth four or more: to part 0 and 1 it takes three tuples more.
DEPTHS = judge_by("a", 4, 1, 1, lambda letter, row: max([k + 1 for k in range(3) if row[k]] + [3 * (row[3] > 0), 0]), [3])

# State 0 never comes, 3 is a leaf, 1 is above leaves, 5 is any other one; 2 and 4 never come.
ODDLY = judge_by("a", 6, 0, 2, lambda letter, row: 3 if row[1] + row[3] == 0 else 1 if row[1] == 0 else 5, [1, 5])

ONE = judge_by("a", 1, 2, 3, lambda letter, row: 0, [0])

NAMED = [EVEN, FOURS, NO_B, DEPTHS, ODDLY, ONE, changed(ONE, 5, []), changed(FOURS, 5, []), changed(DEPTHS, 5, [2])]

CHANCE = [
    *[chance_judge(seed, "ab", *row) for seed in range(3) for row in product((1, 2, 3), (0, 1), (1, 2))],
    *[chance_judge(seed, "a", 4, 1, 1) for seed in range(8)],
    *[chance_judge(seed, "a", 5, 0, 2) for seed in range(8)],
    *[chance_judge(seed, "a", 6, 1, 1) for seed in range(8)],
    *[chance_judge(seed, "a", 3, 2, 2) for seed in range(8)],
    *[chance_judge(seed, "abc", 4, 0, 3) for seed in range(3)],
    *[chance_judge(seed, "abcdefghi", 6, 1, 1) for seed in range(2)],
    chance_judge(5, "a", 3, 4, 4),
]


def merged(seed, states, few, turn, most):
    """A judge whose states are those of one of fewer states, several of them the same one."""
    least = chance_judge(seed, "a", most, few, turn)
    names = [place % most for place in range(states)]

    def state(letter, row):
        below = [0] * most
        for place, number in enumerate(row):
            # A sum of classes may stand for a sum of numbers.
            below[names[place]] += number
        classes = tuple(number if number < few + turn else few + (number - few) % turn for number in below)
        told = least[4][letter, classes]
        return told + most * ((seed + sum(row)) % ((states - told - 1) // most + 1))
    return judge_by("a", states, few, turn, state, [k for k in range(states) if names[k] in least[5]])


MERGED = [
    merged(seed, *row)
    for seed in range(12) for row in [(4, 1, 1, 2), (6, 1, 1, 2), (6, 0, 2, 3), (5, 0, 2, 2), (3, 2, 2, 2), (4, 2, 1, 3)]
]

JUDGES = [*NAMED, *CHANCE, *MERGED]


def renumbered(judge, names):
    """The judge with each state p called names[p]."""
    letters, states, few, turn, table, good = judge
    told = {
        (letter, tuple(row[names.index(state)] for state in range(states))): names[state]
        for (letter, row), state in table.items()
    }
    return (letters, states, few, turn, told, sorted(names[state] for state in good))


def put_by_words(surrounding, tree):
    for letter, children in surrounding:
        tree = (letter, [*children, tree])
    return tree


class PutInto(unittest.TestCase):
    def test_none_one_and_two_by_hand(self):
        tree = ("z", [leaf("y"), leaf("b")])
        self.assertEqual(put_into([], tree), tree)
        self.assertEqual(put_into([("a", [])], tree), ("a", [tree]))
        self.assertEqual(
            put_into([("a", [leaf("d"), leaf("c")]), ("x", [row_of("q", 2)])], tree),
            ("x", [("q", [leaf("q")]), ("a", [leaf("d"), leaf("c"), tree])]),
        )
        self.assertEqual(
            put_into([("x", [row_of("q", 2)]), ("a", [leaf("d"), leaf("c")])], tree),
            ("a", [leaf("d"), leaf("c"), ("x", [("q", [leaf("q")]), tree])]),
        )

    def test_thirty(self):
        surrounding = [("abcdefghijklmnopqrstuvwxyzabcd"[place], [leaf("z"), leaf("y")]) for place in range(30)]
        told = put_into(surrounding, leaf("m"))
        self.assertEqual(told, put_by_words(surrounding, leaf("m")))
        self.assertEqual(told[0], "d")
        for place in range(29, -1, -1):
            self.assertEqual((told[0], told[1][:2]), (surrounding[place][0], [leaf("z"), leaf("y")]))
            told = told[1][2]
        self.assertEqual(told, leaf("m"))

    def test_children_stand_as_they_were_handed_in(self):
        rows = [leaf("c"), ("b", [leaf("z"), leaf("a")]), leaf("a")]
        for children in permutations(rows):
            tree = ("m", list(children))
            self.assertEqual(put_into([], tree), ("m", list(children)))
            self.assertEqual(
                put_into([("k", list(children)), ("l", [tree])], tree), ("l", [tree, ("k", [*children, tree])]),
            )

    def test_all_small_ones(self):
        trees = trees_up_to(3, "ab")
        for one, other, tree in product(trees, repeat=3):
            self.assertEqual(put_into([one, other], tree), put_by_words([one, other], tree))

    def test_what_is_no_tree(self):
        for thing in NO_TREES:
            for surrounding in ([], [leaf("a")], [leaf("a"), ("b", [leaf("c")])]):
                with self.subTest(thing=thing, surrounding=surrounding):
                    with self.assertRaises(NoTree) as caught:
                        put_into(surrounding, thing)
                    self.assertIsInstance(caught.exception, HeapError)

    def test_what_is_no_surrounding(self):
        rows = [[thing] for thing in NO_TREES] + [[leaf("a"), thing, leaf("b")] for thing in NO_TREES]
        others = [thing for thing in OTHER_KINDS if thing != []]
        for thing in [*rows, *others, leaf("a"), (leaf("a"),), ((),), {"a": []}, [[leaf("a")]], [leaf("a"), []]]:
            for tree in (leaf("a"), None):
                with self.subTest(thing=thing, tree=tree):
                    with self.assertRaises(NoTree):
                        put_into(thing, tree)

    def test_deeper_than_python_lets_calls_be(self):
        told = put_into([row_of("a", 3000), row_of("b", 2000)], row_of("c", 2500))
        # The first child of the part on top is the row of b's, the second the part with the a's.
        self.assertEqual([depth_of(child) for child in told[1]], [1999, 3000])
        self.assertEqual((told[0], len(told[1])), ("b", 2))
        tree = leaf("z")
        for _ in range(100):
            tree = put_into([leaf("a")] * 30, tree)
        self.assertEqual(depth_of(tree), 3001)


class LeastJudge(unittest.TestCase):
    def test_by_hand(self):
        for judge in [EVEN, DEPTHS, ONE, changed(ONE, 5, [])]:
            self.assertEqual(least_judge(judge), judge)
        self.assertEqual(least_judge(FOURS), judge_by("a", 2, 0, 4, lambda letter, row: (1 + row[1]) % 2, [0]))
        self.assertEqual(
            least_judge(NO_B), judge_by("ab", 2, 1, 1, lambda letter, row: int(letter == "b" or row[1] > 0), [0]),
        )
        # What comes is 1, 3 and 5, which are 0, 1 and 2 then.
        self.assertEqual(
            least_judge(ODDLY),
            judge_by("a", 3, 0, 2, lambda letter, row: 1 if row[0] + row[1] == 0 else 0 if row[0] == 0 else 2, [0, 2]),
        )
        self.assertEqual(least_judge(changed(FOURS, 5, [])), judge_by("a", 1, 0, 4, lambda letter, row: 0, []))
        self.assertEqual(least_judge(changed(FOURS, 5, [0, 1, 2, 3])), judge_by("a", 1, 0, 4, lambda letter, row: 0, [0]))
        self.assertEqual(least_judge(changed(FOURS, 5, [1])), changed(FOURS, 5, [1]))

    def test_states_parted_only_in_a_surrounding_of_several_tuples(self):
        self.assertEqual(parted_by_words(DEPTHS), {
            **{(3, k): 0 for k in range(3)}, **{(k, 3): 0 for k in range(3)},
            (2, 0): 1, (0, 2): 1, (2, 1): 1, (1, 2): 1, (0, 1): 2, (1, 0): 2,
        })
        self.assertEqual(least_judge(DEPTHS)[1], 4)

    def test_a_state_that_does_not_come_parts_nothing(self):
        # Beside a child of state 2, which never comes, 0 and 1 would be parted.
        judge = judge_by("ab", 3, 1, 1, lambda letter, row: 2 if row[2] and row[1] else int(letter == "b"), [2])
        self.assertEqual(least_judge(judge), judge_by("ab", 1, 1, 1, lambda letter, row: 0, []))
        other = judge_by("ab", 3, 1, 1, lambda letter, row: 2 if row[1] else int(letter == "b"), [2])
        self.assertEqual(least_judge(other)[1], 3)

    def test_it_is_a_judge_of_the_same_letters_few_and_turn(self):
        for judge in JUDGES:
            least = least_judge(judge)
            self.assertIs(is_judge(least), True)
            self.assertEqual((least[0], *least[2:4]), (judge[0], *judge[2:4]))

    def test_its_states_are_the_groups(self):
        fewer = 0
        for judge in JUDGES:
            groups = groups_by_words(judge)
            least = least_judge(judge)
            self.assertEqual(least[1], len(groups))
            self.assertEqual(least[5], [place for place, group in enumerate(groups) if group[0] in judge[5]])
            fewer += len(groups) < len(coming_by_words(judge))
        self.assertGreater(fewer, 40)

    def test_each_tree_has_the_group_of_its_state(self):
        trees = {letters: trees_up_to(5 if len(letters) == 1 else 4, letters) for letters in ("a", "ab")}
        for judge in JUDGES:
            groups = groups_by_words(judge)
            least = least_judge(judge)
            for tree in trees["a" if len(judge[0]) == 1 else "ab"]:
                state = state_by_words(judge, tree)
                self.assertIn(state, groups[state_by_words(least, tree)])
                self.assertIs(lets_by(least, tree), lets_by(judge, tree))

    def test_it_lets_by_the_same_trees_and_made_least_again_it_is_the_same(self):
        for judge in JUDGES:
            least = least_judge(judge)
            if len(judge[4]) * len(least[4]) <= 16900:
                self.assertIs(same_judges(judge, least), True)
            self.assertEqual(least_judge(least), least)

    def test_of_one_numbering_and_another(self):
        for judge in [FOURS, DEPTHS, *MERGED[:20:3]]:
            sizes = {least_judge(renumbered(judge, list(names)))[1] for names in permutations(range(judge[1]))}
            self.assertEqual(sizes, {least_judge(judge)[1]})

    def test_of_joined_and_turned_judges(self):
        for judge in JUDGES:
            if judge[1] <= 2:
                one = least_judge(judge)
                for word in ("both", "either"):
                    self.assertEqual(least_judge(judges_joined(word, judge, judge))[1], one[1])
                self.assertEqual(least_judge(judges_joined("both", judge, turned_judge(judge)))[1], 1)
                self.assertEqual(least_judge(turned_judge(judge)), turned_judge(one))

    def test_the_order_in_which_the_table_grew_does_not_matter(self):
        for judge in JUDGES:
            self.assertEqual(least_judge(grown_otherwise(4, judge)), least_judge(judge))


class Renamed(unittest.TestCase):
    def test_by_hand(self):
        self.assertEqual(renamed(FOURS, judge_by("a", 2, 0, 4, lambda letter, row: (1 + row[1]) % 2, [0])), [0, 1])
        self.assertEqual(renamed(FOURS, judge_by("a", 2, 0, 4, lambda letter, row: row[0] % 2, [1])), [1, 0])
        self.assertIsNone(renamed(FOURS, judge_by("a", 2, 0, 4, lambda letter, row: row[0] % 2, [0])))
        self.assertIsNone(renamed(FOURS, changed(FOURS, 5, [0])))
        self.assertIsNone(renamed(changed(FOURS, 5, [0]), FOURS))
        self.assertEqual(renamed(ONE, ONE), [0])
        self.assertIsNone(renamed(ONE, changed(ONE, 5, [])))
        self.assertEqual(renamed(changed(FOURS, 5, []), judge_by("a", 1, 0, 4, lambda letter, row: 0, [])), [0])

    def test_of_a_judge_with_its_states_in_another_order(self):
        for judge in [EVEN, FOURS, DEPTHS, NO_B, ODDLY, *CHANCE[::3], *MERGED[::3]]:
            for names in [list(row) for row in permutations(range(judge[1]))][::19]:
                other = renumbered(judge, names)
                groups, other_groups = groups_by_words(judge), groups_by_words(other)
                told = renamed(judge, other)
                self.assertEqual(told, [
                    next(place for place, found in enumerate(other_groups) if names[group[0]] in found)
                    for group in groups
                ])

    def test_it_is_told_just_where_they_let_by_the_same_trees(self):
        alike = [judge for judge in JUDGES if judge[0] == "a" and judge[2:4] == (1, 1)] + [
            judge_by("a", 2, 1, 1, lambda letter, row: 1 - int(row[0] > 0), good) for good in ([0], [1])
        ]
        told = [0, 0]
        for one, other in product(alike, repeat=2):
            self.assertIs(renamed(one, other) is not None, same_judges(one, other))
            told[same_judges(one, other)] += 1
        self.assertGreater(min(told), len(alike))

    def test_the_first_judge_renamed_is_the_second(self):
        for one, other in product([judge for judge in MERGED if judge[2:4] == (1, 1)], repeat=2):
            names = renamed(one, other)
            if names is not None:
                self.assertEqual(renumbered(least_judge(one), names), least_judge(other))

    def test_of_a_judge_and_its_least(self):
        for judge in JUDGES:
            self.assertEqual(renamed(judge, least_judge(judge)), list(range(least_judge(judge)[1])))

    def test_judges_otherwise_in_one_row_of_the_table(self):
        # Both have four states, with the same good one and alike but for two children of state 0.
        other = changed(DEPTHS, 4, {**DEPTHS[4], ("a", (1, 0, 1, 0)): 0})
        self.assertEqual(least_judge(other)[1], 4)
        self.assertIsNone(renamed(DEPTHS, other))
        self.assertIsNone(renamed(other, DEPTHS))

    def test_no_fit(self):
        base = judge_by("ab", 1, 1, 2, lambda letter, row: 0, [0])
        for letters, few, turn in [("a", 1, 2), ("abc", 1, 2), ("ac", 1, 2), ("ab", 0, 2), ("ab", 2, 2), ("ab", 1, 1), ("ab", 1, 4), ("ab", 2, 1)]:
            other = judge_by(letters, 1, few, turn, lambda letter, row: 0, [0])
            for pair in [(base, other), (other, base)]:
                with self.subTest(letters=letters, few=few, turn=turn):
                    with self.assertRaises(NoFit) as caught:
                        renamed(*pair)
                    self.assertIsInstance(caught.exception, HeapError)


class OwnThings(unittest.TestCase):
    """[2]: nothing handed in is changed or kept, and what is told is the asker's own."""

    def test_what_is_handed_in_stays(self):
        for judge in JUDGES:
            before = copy.deepcopy(judge)
            order = list(judge[4])
            least_judge(judge)
            renamed(judge, judge)
            self.assertEqual(judge, before)
            self.assertEqual(list(judge[4]), order)
        children = [leaf("c"), leaf("b")]
        surrounding, tree = [("a", children), ("b", children)], ("d", children)
        before = copy.deepcopy((surrounding, tree))
        put_into(surrounding, tree)
        self.assertEqual((surrounding, tree), before)
        with self.assertRaises(NoTree):
            put_into([*surrounding, ("A", [])], tree)
        self.assertEqual((surrounding, tree), before)

    def test_the_tree_told_is_new(self):
        children = [leaf("c"), ("b", [leaf("d")])]
        tree = ("d", children)
        for surrounding in [[], [("a", children)], [("a", children), ("a", children), tree, tree]]:
            check_told_anew(self, lambda: put_into(surrounding, tree), (surrounding, tree))

    def test_judges_and_lists_told_are_new(self):
        for judge in [*NAMED, *CHANCE[::5]]:
            for ask in [lambda: least_judge(judge), lambda: renamed(judge, judge)]:
                check_told_anew(self, ask, judge)

    def test_told_things_are_of_the_kinds_told(self):
        self.assertEqual([type(thing) for thing in least_judge(NO_B)], [str, int, int, int, dict, list])
        self.assertIs(type(renamed(NO_B, NO_B)), list)
        self.assertEqual({type(state) for state in renamed(DEPTHS, DEPTHS)}, {int})
        self.assertEqual((type(put_into([], leaf("a"))), type(put_into([], leaf("a"))[1])), (tuple, list))


class OrderOfChildren(unittest.TestCase):
    """[4]: the least judge tells the same in whatever order children stand."""

    def test_it(self):
        for judge in [EVEN, FOURS, DEPTHS, ODDLY, *CHANCE[-9:]]:
            least = least_judge(judge)
            for tree in told_trees(5, judge[0][:1]):
                asked = [shuffled(seed, tree) for seed in range(3)]
                self.assertEqual({state_of(least, one) for one in asked}, {state_of(least, tree)})
                self.assertEqual({lets_by(least, one) for one in asked}, {lets_by(judge, tree)})


if __name__ == "__main__":
    unittest.main()
