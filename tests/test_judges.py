"""[2], [3], [4], [8], [9]: judges."""

import copy
import unittest
from itertools import permutations, product

from helpers import (
    NO_TREES, OTHER_KINDS, all_unlike, changed, class_by_words, judge_by, leaf, nested, row_of,
    share_any, state_by_words, trees_up_to,
)
from heaptrees.errors import HeapError, NoLetter, NoTree
from heaptrees.judges import class_of, is_judge, lets_by, part_states, state_of
from heaptrees.trees import told_form


# State 1 is an odd size, 0 an even one.
ODD = judge_by("a", 2, 0, 2, lambda letter, row: (1 + row[1]) % 2, [0])

# State 1 is a tree with a b at any place; let by are trees without one.
NO_B = judge_by("ab", 2, 1, 1, lambda letter, row: int(letter == "b" or row[1] > 0), [0])

# State 0 is a leaf, 1 a part with one or two leaves, 2 any other one; let by are 1 and 2.
LEAVES = judge_by(
    "ab", 3, 3, 1,
    lambda letter, row: 0 if row == (0, 0, 0) else 1 if 1 <= row[0] <= 2 else 2,
    [1, 2],
)

# State 0 has 0, 1, 2, 5, 8, .. children of state 0 but with an x on top, where it is the other way.
TURNS = judge_by("ax", 2, 2, 3, lambda letter, row: int((row[0] in (0, 1, 2)) == (letter == "x")), [1])

# The greatest: 24 letters, 5 classes, 2 states are six hundred tuples.
GREATEST = judge_by("abcdefghijklmnopqrstuvwx", 2, 4, 1, lambda letter, row: max(row) % 2, [0, 1])

JUDGES = [
    ODD, NO_B, LEAVES, TURNS, GREATEST,
    judge_by("z", 1, 0, 1, lambda letter, row: 0, []),
    judge_by("z", 1, 4, 4, lambda letter, row: 0, [0]),
    judge_by("am", 1, 0, 4, lambda letter, row: 0, [0]),
    judge_by("a", 3, 4, 4, lambda letter, row: sum(row) % 3, [0, 2]),
    judge_by("abc", 6, 1, 1, lambda letter, row: sum(row) % 6, [0, 1, 2, 3, 4, 5]),
    judge_by("a", 6, 0, 1, lambda letter, row: 5, [5]),
    judge_by("abcdefghijklmnopqrstuvwxyz", 2, 0, 4, lambda letter, row: row[0] % 2, [1]),
]


def with_table(judge, *rows):
    """The judge with a table in which the rows (old key, new key, state) stand for the old keys."""
    table = dict(judge[4])
    for old, new, state in rows:
        table.pop(old)
        table[new] = state
    return changed(judge, 4, table)


def parts_by_words(tree):
    return [part for child in tree[1] for part in parts_by_words(child)] + [tree]


class IsJudge(unittest.TestCase):
    def test_judges(self):
        for judge in JUDGES:
            with self.subTest(judge[:4]):
                self.assertIs(is_judge(judge), True)

    def test_other_kinds(self):
        for thing in [*OTHER_KINDS, leaf("a"), *NO_TREES]:
            with self.subTest(thing):
                self.assertIs(is_judge(thing), False)

    def test_tuples_of_other_forms(self):
        for judge in JUDGES:
            for thing in [
                list(judge), judge[:5], judge[1:], (*judge, 0), (judge,), [judge], judge[::-1],
                dict(enumerate(judge)), tuple([]), (None,) * 6, (0,) * 6, ("a",) * 6, ((),) * 6, ([],) * 6,
            ]:
                self.assertIs(is_judge(thing), False)

    def test_any_other_thing_at_each_place(self):
        for judge in [ODD, NO_B, LEAVES]:
            for place, thing in product(range(6), OTHER_KINDS):
                # What stands there already is no other thing, and no good states are good ones, too.
                if type(thing) is type(judge[place]) and thing in (judge[place], []):
                    continue
                with self.subTest(place=place, thing=thing):
                    self.assertIs(is_judge(changed(judge, place, thing)), False)

    def test_letters(self):
        for letters in [
            "", "aa", "ba", "bb", "Ab", "AB", "a ", " a", "a\n", "a1", "`a", "a{", "\u00e4", "a\u00e4",
            ["a", "b"], ("a", "b"), b"ab", {"a": 0, "b": 0}, {"a", "b"}, None, True, 0, [], (), "abc", "a", "ac",
        ]:
            with self.subTest(letters):
                self.assertIs(is_judge(changed(NO_B, 0, letters)), False)

    def test_letters_with_the_table_they_would_have(self):
        for letters in ["aa", "ba", "aba", "A", "aA", "\u00e4", "1", " ", "a b", "\n", "", "zy"]:
            with self.subTest(letters):
                judge = judge_by(letters, 1, 0, 1, lambda letter, row: 0, [0])
                self.assertIs(is_judge(judge), False)
        for letters in [["a"], ("a",), ["a", "b"], b"a", {"a": 0}]:
            with self.subTest(letters):
                judge = judge_by(letters, 1, 0, 1, lambda letter, row: 0, [0])
                self.assertIs(is_judge(judge), False)

    def test_states_few_and_turn_out_of_bounds_with_the_table_they_would_have(self):
        for states, few, turn in [
            (0, 0, 1), (7, 0, 1), (7, 1, 0), (1, 5, 1), (1, 5, 4), (1, 0, 5), (1, 4, 5), (1, 1, 0),
            (1, 4, 0), (1, -1, 2), (1, 5, -1), (1, 2, -1), (8, 0, 1),
        ]:
            with self.subTest(states=states, few=few, turn=turn):
                judge = judge_by("a", states, few, turn, lambda letter, row: 0, [])
                self.assertIs(is_judge(judge), False)

    def test_truths_are_no_numbers(self):
        one = judge_by("a", 1, 1, 1, lambda letter, row: 0, [0])
        self.assertIs(is_judge(one), True)
        for place in (1, 2, 3):
            self.assertIs(is_judge(changed(one, place, True)), False)
        none_few = judge_by("a", 1, 0, 1, lambda letter, row: 0, [0])
        self.assertIs(is_judge(changed(none_few, 2, False)), False)
        self.assertIs(is_judge(changed(none_few, 5, [False])), False)
        self.assertIs(is_judge(changed(ODD, 5, [True])), False)
        self.assertIs(is_judge(with_table(one, (("a", (1,)), ("a", (True,)), 0))), False)
        self.assertIs(is_judge(with_table(one, (("a", (0,)), ("a", (False,)), 0))), False)
        self.assertIs(is_judge(with_table(one, (("a", (0,)), ("a", (0,)), False))), False)
        self.assertIs(is_judge(with_table(ODD, (("a", (0, 0)), ("a", (0, 0)), True))), False)

    def test_keys(self):
        old = ("a", (0, 1))
        for new in [
            ("b", (0, 1)), ("A", (0, 1)), ("", (0, 1)), ("aa", (0, 1)), (None, (0, 1)), (0, (0, 1)),
            (b"a", (0, 1)), (("a",), (0, 1)), ("a", (0, 2)), ("a", (0, -1)), ("a", (2, 1)), ("a", (0,)),
            ("a", ()), ("a", (0, 1, 0)), ("a", (0, 1, 1)), ("a", "01"), ("a", b"01"), ("a", 1), ("a", None),
            ("a", range(2)), ("a", frozenset([0, 1])), ("a", (0, "1")), ("a", (0, None)), ("a", (0, (1,))),
            ("a", (0, 10 ** 29)), ("a", (0, True)), ("a", (False, 1)), ("a", 0, 1), ("a",), (), ((0, 1), "a"),
            ("a", (0, 1), 0), "a", "a0", None, True, 0, 7, b"a", ("a", ((0, 1),)), frozenset(["a", (0, 1)]),
            nested((), 90, lambda x: (x,)), ("a", nested((), 90, lambda x: (x, x)[:1])),
        ]:
            with self.subTest(new):
                self.assertIs(is_judge(with_table(ODD, (old, new, 0))), False)

    def test_a_text_within_the_letters_is_no_letter(self):
        three = judge_by("abc", 1, 0, 1, lambda letter, row: 0, [0])
        for text in ["ab", "bc", "abc", "", "ac"]:
            with self.subTest(text):
                self.assertIs(is_judge(with_table(three, (("b", (0,)), (text, (0,)), 0))), False)

    def test_one_tuple_too_few_or_too_many(self):
        for judge in [ODD, NO_B, LEAVES, GREATEST]:
            for key in judge[4]:
                less = {k: v for k, v in judge[4].items() if k != key}
                self.assertIs(is_judge(changed(judge, 4, less)), False)
            for key in [("z", (0, 0)), ("a", (9, 9)), ("a", ()), "a", None, 0]:
                self.assertIs(is_judge(changed(judge, 4, {**judge[4], key: 0})), False)
            self.assertIs(is_judge(changed(judge, 4, {})), False)

    def test_states_in_the_table(self):
        for state in [2, -1, 10 ** 29, True, False, None, "0", b"0", [], [0], (0,), {}, {0: 0}, int]:
            for key in [("a", (0, 0)), ("a", (1, 1))]:
                with self.subTest(state=state, key=key):
                    self.assertIs(is_judge(with_table(ODD, (key, key, state))), False)
        self.assertIs(is_judge(with_table(LEAVES, (("b", (3, 3, 3)),) * 2 + (3,))), False)

    def test_tables_of_other_kinds(self):
        for table in [
            list(ODD[4].items()), tuple(ODD[4].items()), list(ODD[4]), set(ODD[4]), None, {}, [ODD[4]],
            "a", b"", 4, True, ODD[4].items(),
        ]:
            with self.subTest(table):
                self.assertIs(is_judge(changed(ODD, 4, table)), False)

    def test_the_tables_order_is_free(self):
        for judge in JUDGES:
            turned = {key: judge[4][key] for key in reversed(list(judge[4]))}
            self.assertIs(is_judge(changed(judge, 4, turned)), True)

    def test_good_states(self):
        for good in [[], [0], [1], [2], [0, 1], [0, 2], [1, 2], [0, 1, 2]]:
            self.assertIs(is_judge(changed(LEAVES, 5, good)), True)
        for good in [
            [3], [-1], [0, 3], [-1, 0], [1, 0], [0, 0], [1, 1], [0, 2, 1], [0, 1, 1], [0, 1, 2, 2], [0, 1, 2, 3],
            (), (0,), {0: 1}, {}, {0}, "0", "", b"", None, True, False, 0, 1, [None], ["0"], [[0]], [(0,)],
            [True], [False], [0, True], [0, None], [0, "1"], [0, [1]], [10 ** 29], range(1), [{}], [b"a"],
        ]:
            with self.subTest(good):
                self.assertIs(is_judge(changed(LEAVES, 5, good)), False)

    def test_six_hundred_tuples_and_no_more(self):
        self.assertEqual(len(GREATEST[4]), 600)
        for letters, states, few, turn in [
            ("abcdefghijklmnopqrs", 5, 1, 1), ("abcdefghijklmnopqrstuvwxy", 2, 4, 1), ("a", 6, 2, 1), ("ab", 3, 4, 4), ("abcde", 3, 4, 1),
            ("abcdefghijklmnopqrstuvwxyz", 2, 1, 4),
        ]:
            judge = judge_by(letters, states, few, turn, lambda letter, row: 0, [0])
            with self.subTest(judge[:4]):
                self.assertGreater(len(judge[4]), 600)
                self.assertIs(is_judge(judge), False)

    def test_things_far_within(self):
        for wrap in [lambda x: [x], lambda x: (x,), lambda x: {0: x}, lambda x: (x, [x])[:1]]:
            deep = nested("a", 95, wrap)
            for place in range(6):
                self.assertIs(is_judge(changed(ODD, place, deep)), False)
            self.assertIs(is_judge(changed(ODD, 5, [deep])), False)
            self.assertIs(is_judge(with_table(ODD, (("a", (0, 0)), ("a", (0, 0)), deep))), False)


class Classes(unittest.TestCase):
    def test_by_hand(self):
        for few, turn, told in [
            (0, 1, [0, 0, 0, 0, 0]),
            (0, 2, [0, 1, 0, 1, 0, 1]),
            (1, 1, [0, 1, 1, 1, 1]),
            (4, 1, [0, 1, 2, 3, 4, 4, 4, 4]),
            (2, 3, [0, 1, 2, 3, 4, 2, 3, 4, 2, 3]),
            (4, 4, [0, 1, 2, 3, 4, 5, 6, 7, 4, 5, 6, 7, 4]),
            (3, 2, [0, 1, 2, 3, 4, 3, 4, 3, 4]),
        ]:
            with self.subTest(few=few, turn=turn):
                self.assertEqual([class_of(c, few, turn) for c in range(len(told))], told)

    def test_by_words(self):
        for few, turn in product(range(5), range(1, 5)):
            for number in range(70):
                self.assertEqual(class_of(number, few, turn), class_by_words(number, few, turn))

    def test_thirty_figures(self):
        number = 10 ** 29
        self.assertEqual(len(str(number)), 30)
        self.assertEqual(class_of(number, 0, 1), 0)
        self.assertEqual(class_of(number, 4, 1), 4)
        self.assertEqual(class_of(number, 0, 4), 0)
        self.assertEqual(class_of(number + 3, 0, 4), 3)
        self.assertEqual(class_of(number, 1, 4), 4)
        self.assertEqual(class_of(number, 4, 3), 4)
        self.assertEqual(class_of(10 ** 30 - 1, 0, 2), 1)

    def test_it_is_a_whole_number(self):
        for number in [0, 1, 5, 10 ** 29]:
            self.assertIs(type(class_of(number, 1, 2)), int)


class States(unittest.TestCase):
    def test_odd_sizes_by_hand(self):
        for tree, state in [
            (leaf("a"), 1), (row_of("a", 2), 0), (row_of("a", 3), 1), (("a", [leaf("a")] * 2), 1),
            (("a", [leaf("a")] * 59), 0), (("a", [leaf("a"), row_of("a", 2)]), 0), (row_of("a", 3000), 0),
        ]:
            self.assertEqual(state_of(ODD, tree), state)
            self.assertIs(lets_by(ODD, tree), state == 0)

    def test_no_b_by_hand(self):
        for tree, state in [
            (leaf("a"), 0), (leaf("b"), 1), (("b", [leaf("a")]), 1), (("a", [leaf("a"), leaf("b")]), 1),
            (("a", [("a", [("a", [leaf("b")])]), leaf("a")]), 1), (row_of("a", 30), 0),
        ]:
            self.assertEqual(state_of(NO_B, tree), state)
            self.assertIs(lets_by(NO_B, tree), state == 0)

    def test_turns_by_hand(self):
        # Few 2, turn 3: of 0 to 10 children, 3, 4, 6, 7, 9 and 10 are of the classes 3 and 4.
        for many, state in enumerate([0, 0, 0, 1, 1, 0, 1, 1, 0, 1, 1]):
            tree = ("a", [leaf("a") for _ in range(many)])
            self.assertEqual(state_of(TURNS, tree), state, many)
            self.assertIs(lets_by(TURNS, tree), state == 1)
            self.assertEqual(state_of(TURNS, ("x", tree[1])), 1 - state, many)
            self.assertIs(lets_by(TURNS, ("x", tree[1])), state == 0)

    def test_part_states_by_hand(self):
        two = ("a", [leaf("b"), leaf("b")])
        tree = ("a", [("b", [leaf("a")]), leaf("b"), ("b", [two, leaf("a"), leaf("a"), leaf("a")]), two])
        # In order: b(a), b, b(a(bb) a a a), a(bb), each behind its children; then the tree.
        self.assertEqual(part_states(LEAVES, tree), [0, 1, 0, 0, 0, 1, 0, 0, 0, 2, 0, 0, 1, 1])
        self.assertEqual(part_states(LEAVES, leaf("b")), [0])
        self.assertEqual(part_states(LEAVES, row_of("a", 4)), [0, 1, 2, 2])
        self.assertEqual(part_states(ODD, row_of("a", 5)), [1, 0, 1, 0, 1])
        self.assertEqual(part_states(ODD, ("a", [leaf("a"), row_of("a", 2)])), [1, 1, 0, 0])
        self.assertEqual(part_states(ODD, ("a", [row_of("a", 2), leaf("a")])), [1, 0, 1, 0])

    def test_good_states_are_let_by_and_no_other_ones(self):
        trees = [leaf("a"), row_of("a", 2), row_of("b", 3)]
        for good in [[], [0], [1], [2], [0, 1], [0, 2], [1, 2], [0, 1, 2]]:
            judge = changed(LEAVES, 5, good)
            self.assertEqual([lets_by(judge, tree) for tree in trees], [k in good for k in range(3)])

    def test_all_small_trees_by_words(self):
        trees = trees_up_to(5, "ab")
        for judge in [NO_B, LEAVES, GREATEST, JUDGES[9], JUDGES[11]]:
            for tree in trees:
                states = [state_by_words(judge, part) for part in parts_by_words(tree)]
                self.assertEqual(part_states(judge, tree), states)
                self.assertEqual(state_of(judge, tree), states[-1])
                self.assertIs(lets_by(judge, tree), states[-1] in judge[5])

    def test_in_whatever_order_children_stand(self):
        children = [leaf("b"), ("a", [leaf("b"), leaf("a")]), row_of("a", 3), leaf("b"), leaf("a")]
        for judge in [NO_B, LEAVES, GREATEST]:
            told = {(state_of(judge, ("a", list(row))), lets_by(judge, ("a", list(row))))
                    for row in permutations(children)}
            self.assertEqual(len(told), 1)
            for tree in trees_up_to(5, "ab"):
                self.assertEqual(state_of(judge, tree), state_of(judge, told_form(tree)))

    def test_part_states_follow_the_order_of_the_children(self):
        children = [leaf("b"), row_of("a", 3), ("b", [leaf("a"), leaf("a")])]
        for row in permutations(children):
            below = [state for child in row for state in part_states(LEAVES, child)]
            self.assertEqual(part_states(LEAVES, ("a", list(row))), [*below, state_of(LEAVES, ("a", children))])

    def test_deeper_than_python_lets_calls_be(self):
        # No assertEqual of what is long: telling where two such differ takes it minutes.
        self.assertTrue(part_states(ODD, row_of("a", 3000)) == [1, 0] * 1500)
        self.assertIs(lets_by(ODD, row_of("a", 2999)), False)


class Refused(unittest.TestCase):
    def test_no_tree(self):
        for thing in NO_TREES:
            for function in [state_of, lets_by, part_states]:
                with self.subTest(function=function, thing=thing):
                    with self.assertRaises(NoTree) as caught:
                        function(NO_B, thing)
                    self.assertIsInstance(caught.exception, HeapError)

    def test_no_letter(self):
        for tree in [
            leaf("c"), leaf("z"), ("c", [leaf("a")]), ("a", [leaf("c")]), ("a", [leaf("a"), leaf("b"), leaf("c")]),
            ("a", [leaf("c"), leaf("a")]), nested(leaf("c"), 29, lambda x: ("a", [x, leaf("b")])),
        ]:
            for function in [state_of, lets_by, part_states]:
                with self.subTest(function=function, tree=tree):
                    with self.assertRaises(NoLetter) as caught:
                        function(NO_B, tree)
                    self.assertIsInstance(caught.exception, HeapError)
                    self.assertNotIsInstance(caught.exception, NoTree)

    def test_no_letter_stands_behind_no_tree(self):
        for thing in NO_TREES:
            for tree in [
                ("c", [thing]), ("a", [leaf("c"), thing]), ("a", [thing, leaf("c")]),
                ("a", [("c", [leaf("c")]), ("b", [thing])]),
            ]:
                for function in [state_of, lets_by, part_states]:
                    with self.subTest(function=function, tree=tree):
                        with self.assertRaises(NoTree):
                            function(NO_B, tree)


class OwnThings(unittest.TestCase):
    """[2]: nothing handed in is changed or kept, and what is told is the asker's own."""

    def test_what_is_handed_in_stays(self):
        children = [leaf("b"), leaf("a")]
        tree = ("a", [("b", children), ("a", children), ("b", children)])
        for judge in [NO_B, LEAVES, GREATEST]:
            before = copy.deepcopy((judge, tree))
            order = list(judge[4])
            for function in [state_of, lets_by, part_states]:
                function(judge, tree)
            is_judge(judge)
            self.assertEqual((judge, tree), before)
            self.assertEqual(list(judge[4]), order)

    def test_what_is_refused_stays(self):
        tree = ("a", [leaf("b"), leaf("c"), leaf("a")])
        before = copy.deepcopy((NO_B, tree))
        with self.assertRaises(NoLetter):
            part_states(NO_B, tree)
        self.assertEqual((NO_B, tree), before)

    def test_the_told_list_is_new(self):
        tree = ("a", [leaf("b"), leaf("a")])
        told = [part_states(NO_B, tree), part_states(NO_B, tree)]
        self.assertTrue(all_unlike(*told))
        self.assertFalse(share_any(told, (NO_B, tree)))
        told[0].clear()
        self.assertEqual(told[1], [1, 0, 1])
        self.assertEqual(part_states(NO_B, tree), [1, 0, 1])

    def test_a_judge_changed_between_is_judged_anew(self):
        judge = judge_by("a", 1, 0, 1, lambda letter, row: 0, [0])
        self.assertIs(lets_by(judge, leaf("a")), True)
        judge[5].clear()
        self.assertIs(lets_by(judge, leaf("a")), False)
        judge[4]["a", (0,)] = 1
        self.assertIs(is_judge(judge), False)

    def test_told_things_are_of_the_kinds_told(self):
        told = part_states(LEAVES, row_of("a", 3))
        self.assertIs(type(told), list)
        self.assertTrue(all(type(state) is int for state in told))
        self.assertIs(type(state_of(LEAVES, leaf("a"))), int)


if __name__ == "__main__":
    unittest.main()
