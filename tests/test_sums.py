"""[2], [3], [4], [10], [11]: conditions on sums, rules, and the judges made of them."""

import copy
import unittest
from itertools import product
from random import Random

from helpers import (
    NO_TREES, OTHER_KINDS, all_unlike, leaf, nested, row_of, share_any, told_trees, trees_up_to,
    wide_trees,
)
from heaptrees.errors import HeapError, NoLetter, NoTree, TooMany
from heaptrees.judges import is_judge, lets_by, state_of
from heaptrees.sums import condition_holds, is_condition, judge_made, rules_let_by, state_by_rules

ALL_S = range(1, 7)


def always(s):
    return ("least", [0] * s, 0)


def plain_conditions(s):
    return [
        *[("least", [weight] * s, b) for weight, b in product(range(5), range(5))],
        ("least", list(range(s))[:5] + [4] * (s - 5), 2),
        *[("turns", [weight] * s, m, r) for weight in range(5) for m in range(1, 5) for r in range(m)],
    ]


def levels_of(condition):
    """The condition and some that are made of it, a list for each of two to four levels."""
    rows = [[condition]]
    for _ in range(3):
        inner = rows[-1][0]
        rows.append([
            ("not", inner), ("both", inner, condition), ("both", condition, inner),
            ("either", inner, inner), ("either", condition, inner),
        ])
    return rows


def good_conditions(s):
    return [
        *plain_conditions(s),
        *[made for row in levels_of(("turns", [1] * s, 3, 2)) for made in row],
        *[made for row in levels_of(("least", [2] * s, 4)) for made in row],
    ]


NONE_ANYWHERE = [
    None, True, False, -1, 5, 10 ** 29, "", "a", "1", "Least", "least ", "or", b"least", b"", (), [],
    {}, set(), [None], (None,), ["least"], ("least",), object(), int,
]


def changed_once(thing):
    """The thing with one place otherwise, so that no condition is left."""
    told = [bad for bad in NONE_ANYWHERE if not (isinstance(bad, list) and bad == thing)]
    if isinstance(thing, (tuple, list)):
        kind = type(thing)
        other = list if kind is tuple else tuple
        told += [other(thing), kind(thing[:-1]), kind(thing[1:]), kind([*thing, 0]), kind([*thing, thing[-1]])]
        told += [kind([thing]), [thing], (thing,), {"least": thing}]
        for place, part in enumerate(thing):
            told += [kind([*thing[:place], bad, *thing[place + 1:]]) for bad in changed_once(part)]
    return told


def weighed_by_words(weights, numbers):
    total = 0
    for at in range(len(weights)):
        for _ in range(weights[at]):
            total += numbers[at]
    return total


def holds_by_words(condition, numbers):
    """[10] word by word."""
    word, *parts = condition
    if word == "least":
        return weighed_by_words(parts[0], numbers) >= parts[1]
    if word == "turns":
        # r is below m, so the sum less r is a multiple of m just where the sum leaves r.
        return divmod(weighed_by_words(parts[0], numbers), parts[1])[1] == parts[2]
    told = [holds_by_words(part, numbers) for part in parts]
    return {"not": lambda: not told[0], "both": lambda: all(told), "either": lambda: any(told)}[word]()


def rules_state_by_words(rules, tree):
    """[11] word by word."""
    below = [rules_state_by_words(rules, child) for child in tree[1]]
    numbers = [below.count(state) for state in range(rules[1])]
    return next(state for condition, state in rules[2][tree[0]] if holds_by_words(condition, numbers))


def chance_condition(chance, s, levels, turns):
    word = chance.choice(["least", "turns", "not", "both", "either"] if levels > 1 else ["least", "turns"])
    weights = [chance.randrange(5) for _ in range(s)]
    if word == "least":
        return (word, weights, chance.randrange(5))
    if word == "turns":
        m = chance.choice(turns)
        return (word, weights, m, chance.randrange(m))
    many = 1 if word == "not" else 2
    return (word, *[chance_condition(chance, s, levels - 1, turns) for _ in range(many)])


def chance_rules(seed, letters, s, turns):
    """Any rules, the same for each seed."""
    chance = Random(seed)
    rows = {}
    for letter in letters:
        rows[letter] = [
            (chance_condition(chance, s, 4, turns), chance.randrange(s)) for _ in range(chance.randrange(4))
        ]
        rows[letter].append((always(s), chance.randrange(s)))
    return (letters, s, rows, [state for state in range(s) if chance.randrange(2)])


def rules_of(letters, states, *conditions):
    """Rules with these conditions, state 0 for each, in the rows of the last letter."""
    rows = {letter: [(always(states), 0)] for letter in letters}
    rows[letters[-1]] = [*[(condition, 0) for condition in conditions], (always(states), 0)]
    return (letters, states, rows, [0])


# Of a: two for each child of state 1, one of state 2, three at least, then odd many children.
# Of b: none of state 0; then 3, 5, 7, .. of state 0.
MIXED = (
    "ab", 3,
    {
        "b": [
            (("not", ("least", [1, 0, 0], 1)), 1),
            (("both", ("least", [1, 0, 0], 2), ("turns", [1, 0, 0], 2, 1)), 2),
            (("least", [0, 0, 0], 0), 0),
        ],
        "a": [
            (("least", [0, 2, 1], 3), 2),
            (("turns", [1, 1, 1], 2, 1), 1),
            (("least", [0, 0, 0], 0), 0),
        ],
    },
    [0, 2],
)

MANY_RULES = [
    MIXED,
    *[chance_rules(seed, "ab", 2, [1, 2, 4]) for seed in range(12)],
    *[chance_rules(seed, "ab", 1, [1, 3]) for seed in range(12, 18)],
    *[chance_rules(seed, "ab", 3, [1]) for seed in range(18, 26)],
]


class IsCondition(unittest.TestCase):
    def test_conditions(self):
        for s in ALL_S:
            for condition in good_conditions(s):
                with self.subTest(condition):
                    self.assertIs(is_condition(condition, s), True)

    def test_another_number_of_states(self):
        for s, other in product(ALL_S, range(-1, 9)):
            if s != other:
                for condition in good_conditions(s):
                    self.assertIs(is_condition(condition, other), False)

    def test_other_kinds_of_s(self):
        for s in [
            None, True, False, 0, -1, 7, 8, 10 ** 29, -10 ** 29, "", "1", b"1", [], [1], (), (1,), {}, {1: 1},
            set(), object(), int, range(1), nested([], 100, lambda x: [x]),
        ]:
            for count in ALL_S:
                with self.subTest(s=s, count=count):
                    self.assertIs(is_condition(always(count), s), False)
        self.assertIs(is_condition(always(7), 7), False)
        self.assertIs(is_condition(("least", [], 0), 0), False)
        for thing in OTHER_KINDS:
            self.assertIs(is_condition(thing, thing), False)

    def test_other_kinds(self):
        for s in ALL_S:
            for thing in [*OTHER_KINDS, *NO_TREES, leaf("a"), "least", "turns", "not"]:
                with self.subTest(s=s, thing=thing):
                    self.assertIs(is_condition(thing, s), False)

    def test_one_place_otherwise(self):
        for s in (1, 2, 6):
            for condition in [
                ("least", [1] * s, 2), ("turns", [3] * s, 4, 1), ("turns", [0] * s, 1, 0),
                ("not", always(s)), ("both", ("turns", [1] * s, 2, 0), always(s)),
                ("either", ("not", ("least", [4] * s, 4)), ("both", always(s), ("turns", [1] * s, 3, 2))),
            ]:
                self.assertIs(is_condition(condition, s), True)
                for thing in changed_once(condition):
                    with self.subTest(condition=condition, thing=thing):
                        self.assertIs(is_condition(thing, s), False)

    def test_each_bound(self):
        for thing, told in [
            (("least", [4], 4), True), (("least", [5], 4), False), (("least", [4], 5), False),
            (("least", [0], 0), True), (("least", [-1], 0), False), (("least", [0], -1), False),
            (("turns", [4], 4, 3), True), (("turns", [4], 5, 3), False), (("turns", [4], 4, 4), False),
            (("turns", [0], 1, 0), True), (("turns", [0], 1, 1), False), (("turns", [0], 0, 0), False),
            (("turns", [0], 0, -1), False), (("turns", [0], 2, -1), False), (("turns", [5], 2, 1), False),
            (("turns", [1], 2, 2), False), (("turns", [1], 3, 2), True), (("turns", [1], -2, -3), False),
            (("turns", [1], 3), False), (("least", [1], 3, 2), False), (("turns", [1], 3, 2, 0), False),
            (("least", [1]), False), (("not",), False), (("both",), False), (("least",), False),
            (("not", always(1), always(1)), False), (("both", always(1)), False),
            (("either", always(1)), False), (("both", always(1), always(1), always(1)), False),
            (("and", always(1), always(1)), False), (("or", always(1), always(1)), False),
        ]:
            with self.subTest(thing):
                self.assertIs(is_condition(thing, 1), told)

    def test_truths_are_no_numbers(self):
        for thing in [
            ("least", [True], 0), ("least", [1], True), ("least", [0, False], 0), ("least", [1], False),
            ("turns", [True], 2, 1), ("turns", [1], True, 0), ("turns", [1], 2, True), ("turns", [1], 2, False),
            ("not", ("least", [True], 0)), True,
        ]:
            for s in (1, 2):
                with self.subTest(thing=thing, s=s):
                    self.assertIs(is_condition(thing, s), False)

    def test_where_a_list_is_due_and_where_a_tuple(self):
        for thing in [
            ("least", (1, 1), 0), ["least", [1, 1], 0], ("turns", (1, 1), 2, 1), ["turns", [1, 1], 2, 1],
            ["not", always(2)], ("not", ["least", [0, 0], 0]), ("both", always(2), list(always(2))),
            ("either", list(always(2)), always(2)), ("not", [always(2)]), ("not", (always(2),)),
            ("both", [always(2), always(2)]), ("both", (always(2), always(2))), ("least", {0: 1, 1: 1}, 0),
            ("least", "11", 0), ("least", range(2), 0), ("least", b"11", 0), "least", {"least": [1, 1]},
        ]:
            with self.subTest(thing):
                self.assertIs(is_condition(thing, 2), False)

    def test_four_within_one_another_and_no_five(self):
        for s in (1, 3):
            for plain in [("least", [1] * s, 1), ("turns", [1] * s, 2, 1)]:
                wraps = [
                    lambda x: ("not", x), lambda x: ("both", x, plain), lambda x: ("both", plain, x),
                    lambda x: ("either", x, plain), lambda x: ("either", plain, x), lambda x: ("both", x, x),
                ]
                for first, second, third in product(wraps, repeat=3):
                    four = first(second(third(plain)))
                    self.assertIs(is_condition(four, s), True)
                    for wrap in wraps:
                        self.assertIs(is_condition(wrap(four), s), False)
                for wrap in wraps:
                    self.assertIs(is_condition(nested(plain, 95, wrap), s), False)

    def test_the_whole_four_levels_wide(self):
        wide = nested(always(6), 3, lambda x: ("both", x, x))
        self.assertIs(is_condition(wide, 6), True)
        self.assertIs(is_condition(("not", wide), 6), False)


class ConditionHolds(unittest.TestCase):
    def test_least_at_below_and_beyond(self):
        for b in range(5):
            for number in range(9):
                self.assertIs(condition_holds(("least", [1], b), [number]), number >= b)
        for numbers, told in [
            ([0, 0, 0], False), ([3, 0, 0], False), ([0, 1, 0], False), ([0, 2, 0], True), ([0, 1, 1], False),
            ([9, 1, 2], True), ([9, 0, 3], False), ([9, 0, 4], True), ([0, 10 ** 29, 0], True),
            ([10 ** 29, 0, 0], False),
        ]:
            with self.subTest(numbers):
                self.assertIs(condition_holds(("least", [0, 2, 1], 4), numbers), told)

    def test_turns_of_each_rest(self):
        for m in range(1, 5):
            for r, number in product(range(m), range(13)):
                self.assertIs(condition_holds(("turns", [1], m, r), [number]), number % m == r)
        for numbers, told in [
            ([0, 0], False), ([1, 0], False), ([2, 0], True), ([0, 1], True), ([2, 1], False), ([0, 4], True),
            ([1, 1], False), ([2, 3], True), ([5, 0], True),
        ]:
            with self.subTest(numbers):
                self.assertIs(condition_holds(("turns", [1, 2], 3, 2), numbers), told)

    def test_a_sum_smaller_than_the_rest(self):
        for m in range(2, 5):
            for r in range(1, m):
                self.assertIs(condition_holds(("turns", [1], m, r), [0]), False)
                self.assertIs(condition_holds(("turns", [0], m, r), [7]), False)
        self.assertIs(condition_holds(("turns", [1], 4, 3), [1]), False)
        self.assertIs(condition_holds(("turns", [1], 4, 3), [2]), False)
        self.assertIs(condition_holds(("turns", [1], 4, 0), [0]), True)

    def test_thirty_figures(self):
        great = 10 ** 30 - 1
        self.assertIs(condition_holds(("turns", [1], 2, 1), [great]), True)
        self.assertIs(condition_holds(("turns", [1], 2, 1), [great - 1]), False)
        self.assertIs(condition_holds(("turns", [4, 3], 4, 3), [great, great]), False)
        self.assertIs(condition_holds(("turns", [4, 3], 4, 1), [great, great]), True)
        self.assertIs(condition_holds(("turns", [1] * 6, 3, 0), [great] * 6), True)
        self.assertIs(condition_holds(("turns", [1] * 6, 3, 1), [great] * 5 + [great + 1]), True)
        self.assertIs(condition_holds(("least", [4] * 6, 4), [great] * 6), True)
        self.assertIs(condition_holds(("least", [0] * 6, 1), [great] * 6), False)

    def test_not_both_either(self):
        yes, no = ("least", [1], 0), ("least", [0], 1)
        for one, other in product((yes, no), repeat=2):
            by_one, by_other = one is yes, other is yes
            self.assertIs(condition_holds(("both", one, other), [3]), by_one and by_other)
            self.assertIs(condition_holds(("either", one, other), [3]), by_one or by_other)
            self.assertIs(condition_holds(("not", ("both", one, other)), [3]), not (by_one and by_other))
            self.assertIs(condition_holds(("both", ("not", one), other), [3]), not by_one and by_other)
            self.assertIs(condition_holds(("either", one, ("not", other)), [3]), by_one or not by_other)
        self.assertIs(condition_holds(("not", yes), [0]), False)
        self.assertIs(condition_holds(("not", no), [0]), True)
        self.assertIs(condition_holds(("not", ("not", ("not", yes))), [0]), False)

    def test_by_words(self):
        chance = Random(10)
        for _ in range(600):
            s = chance.randrange(1, 7)
            condition = chance_condition(chance, s, 4, [1, 2, 3, 4])
            self.assertIs(is_condition(condition, s), True)
            for top in (2, 9, 10 ** 30):
                numbers = [chance.randrange(top) for _ in range(s)]
                self.assertIs(condition_holds(condition, numbers), holds_by_words(condition, numbers))


class StateByRules(unittest.TestCase):
    def test_by_hand(self):
        a, b = leaf("a"), leaf("b")
        for tree, state in [
            (a, 0), (b, 1), (("a", [b]), 1), (("a", [b, b]), 2), (("a", [a, a]), 0), (("a", [a, a, a]), 1),
            (("b", [a]), 0), (("b", [a, a]), 0), (("b", [a, a, a]), 2), (("b", [a, a, a, a]), 0),
            (("b", [a] * 5), 2), (("b", [a] * 8), 0), (("b", [a] * 59), 2), (("b", [a] * 58), 0), (("b", [b, b]), 1),
            # Two for the b, one for b(aaa): three.
            (("a", [b, ("b", [a, a, a])]), 2), (("a", [a, ("b", [a, a, a])]), 0), (("a", [("b", [a, a, a])] * 3), 2),
            (("a", [a, a, ("a", [b])]), 1), (("a", [a, ("a", [b]), ("a", [b])]), 2),
        ]:
            with self.subTest(tree):
                self.assertEqual(state_by_rules(MIXED, tree), state)
                self.assertIs(rules_let_by(MIXED, tree), state != 1)

    def test_the_first_row_that_holds(self):
        rows = {"a": [(("least", [1, 0, 0], 2), 1), (("least", [1, 0, 0], 1), 2), (always(3), 0)]}
        self.assertEqual(state_by_rules(("a", 3, rows, []), leaf("a")), 0)
        self.assertEqual(state_by_rules(("a", 3, rows, []), row_of("a", 2)), 2)
        self.assertEqual(state_by_rules(("a", 3, rows, []), ("a", [leaf("a")] * 2)), 1)
        turned = {"a": [rows["a"][1], rows["a"][0], rows["a"][2]]}
        self.assertEqual(state_by_rules(("a", 3, turned, []), ("a", [leaf("a")] * 2)), 2)
        always_first = {"a": [(always(3), 2), *rows["a"]]}
        self.assertEqual(state_by_rules(("a", 3, always_first, []), ("a", [leaf("a")] * 2)), 2)

    def test_the_last_row_alone(self):
        self.assertEqual(state_by_rules(("ab", 2, {"a": [(always(2), 1)], "b": [(always(2), 0)]}, []), leaf("a")), 1)
        self.assertEqual(state_by_rules(("ab", 2, {"a": [(always(2), 1)], "b": [(always(2), 0)]}, []), leaf("b")), 0)

    def test_good_states(self):
        trees = [leaf("a"), leaf("b"), ("a", [leaf("b"), leaf("b")])]
        for good in [[], [0], [1], [2], [0, 1], [0, 2], [1, 2], [0, 1, 2]]:
            told = [rules_let_by((*MIXED[:3], good), tree) for tree in trees]
            self.assertEqual(told, [state in good for state in range(3)])
            self.assertTrue(all(type(one) is bool for one in told))

    def test_all_small_trees_by_words(self):
        trees = trees_up_to(4, "ab") + wide_trees("ab")
        for rules in MANY_RULES:
            for tree in trees:
                state = rules_state_by_words(rules, tree)
                self.assertEqual(state_by_rules(rules, tree), state)
                self.assertIs(rules_let_by(rules, tree), state in rules[3])

    def test_deeper_than_python_lets_calls_be(self):
        # Each part above the leaf has one child, an odd number, and that is too little for three.
        self.assertEqual(state_by_rules(MIXED, row_of("a", 3000)), 1)
        self.assertIs(rules_let_by(MIXED, row_of("a", 3000)), False)


class JudgeMade(unittest.TestCase):
    def test_by_hand(self):
        # Odd many children of state 1.
        odd = ("a", 2, {"a": [(("turns", [0, 1], 2, 1), 0), (always(2), 1)]}, [0])
        table = {("a", (0, 0)): 1, ("a", (0, 1)): 0, ("a", (1, 0)): 1, ("a", (1, 1)): 0}
        self.assertEqual(judge_made(odd), ("a", 2, 0, 2, table, [0]))
        # Two at least; letters in another order in the rows.
        two = ("ab", 1, {"b": [(always(1), 0)], "a": [(("least", [1], 2), 0), (always(1), 0)]}, [])
        table = {(letter, (number,)): 0 for letter in "ab" for number in range(3)}
        self.assertEqual(judge_made(two), ("ab", 1, 2, 1, table, []))
        # Two together, with few 2 and turn 1: the classes 0, 1, 2 as numbers.
        both = ("a", 2, {"a": [(("least", [1, 2], 2), 1), (always(2), 0)]}, [0, 1])
        table = {("a", (x, y)): int(x + 2 * y >= 2) for x in range(3) for y in range(3)}
        self.assertEqual(judge_made(both), ("a", 2, 2, 1, table, [0, 1]))
        # Few 1, turn 2: the class 2 stands for 2, 4, 6, ..
        mixed = (
            "a", 2, {"a": [(("both", ("least", [1, 0], 1), ("turns", [1, 0], 2, 0)), 1), (always(2), 0)]}, [1],
        )
        table = {("a", (x, y)): int(x == 2) for x in range(3) for y in range(3)}
        self.assertEqual(judge_made(mixed), ("a", 2, 1, 2, table, [1]))

    def test_rows_without_a_condition_but_the_last(self):
        self.assertEqual(
            judge_made(("ab", 2, {"a": [(always(2), 1)], "b": [(always(2), 0)]}, [1])),
            ("ab", 2, 0, 1, {("a", (0, 0)): 1, ("b", (0, 0)): 0}, [1]),
        )

    def test_few_and_turn(self):
        least, turns = (lambda b: ("least", [1, 0], b)), (lambda m: ("turns", [0, 1], m, 0))
        for conditions, few, turn in [
            ([], 0, 1), ([least(0)], 0, 1), ([least(3)], 3, 1), ([least(1), least(4), least(2)], 4, 1),
            ([turns(1)], 0, 1), ([turns(3)], 0, 3), ([turns(2), turns(4)], 0, 4), ([turns(4), turns(2)], 0, 4),
            ([turns(1), turns(3)], 0, 3), ([least(2), turns(2)], 2, 2), ([("not", least(2))], 2, 1),
            ([("not", ("not", ("not", turns(4))))], 0, 4),
            ([("both", least(3), turns(2))], 3, 2), ([("either", turns(2), least(3))], 3, 2),
            ([("both", turns(2), ("either", ("not", turns(4)), least(1)))], 1, 4),
            ([("either", ("both", least(1), least(4)), ("not", least(2)))], 4, 1),
        ]:
            with self.subTest(conditions):
                told = judge_made(rules_of("a", 2, *conditions))
                self.assertEqual(told[2:4], (few, turn))
                self.assertIs(is_judge(told), True)
                # In the rows of another letter than the first one they count as well.
                self.assertEqual(judge_made(rules_of("abc", 2, *conditions))[2:4], (few, turn))
        # A weight of nothing and a row that is never asked count, too.
        self.assertEqual(judge_made(rules_of("a", 2, always(2), ("least", [0, 0], 4)))[2], 4)
        one_each = {"a": [(turns(2), 0), (always(2), 1)], "b": [(turns(4), 0), (least(2), 0), (always(2), 1)]}
        self.assertEqual(judge_made(("ab", 2, one_each, []))[2:4], (2, 4))

    def test_letters_states_and_good_are_the_rules_own(self):
        for rules in MANY_RULES:
            told = judge_made(rules)
            self.assertEqual(told[:2], rules[:2])
            self.assertEqual(told[5], rules[3])
            self.assertIs(is_judge(told), True)

    def test_the_table_asks_the_classes_as_numbers(self):
        for rules in MANY_RULES:
            told = judge_made(rules)
            for (letter, row), state in told[4].items():
                first = next(state for condition, state in rules[2][letter] if holds_by_words(condition, row))
                self.assertEqual(state, first)

    def test_it_gives_each_tree_the_state_of_the_rules(self):
        trees = [tree for size in range(1, 7) for tree in told_trees(size, "ab")] + wide_trees("ab")
        for rules in MANY_RULES:
            judge = judge_made(rules)
            for tree in trees:
                state = state_by_rules(rules, tree)
                self.assertEqual(state_of(judge, tree), state)
                self.assertIs(lets_by(judge, tree), rules_let_by(rules, tree))

    def test_too_many_turns(self):
        turns = [("turns", [1], m, 0) for m in range(1, 5)]
        one, two, three, four = turns
        for conditions in [[one], [two], [three], [four], [two, four], [one, three], [four, two, one], [three, three]]:
            self.assertIs(is_judge(judge_made(rules_of("a", 1, *conditions))), True)
        for conditions in [
            [two, three], [three, two], [three, four], turns, [("not", two), ("not", three)], [("both", two, three)],
            [("either", ("not", three), ("not", ("not", four)))],
        ]:
            with self.subTest(conditions):
                with self.assertRaises(TooMany) as caught:
                    judge_made(rules_of("a", 1, *conditions))
                self.assertIsInstance(caught.exception, HeapError)

    def test_too_many_turns_of_several_letters(self):
        rows = {"a": [(("turns", [1], 2, 0), 0), (always(1), 0)], "b": [(("turns", [1], 3, 0), 0), (always(1), 0)]}
        with self.assertRaises(TooMany):
            judge_made(("ab", 1, rows, []))

    def test_six_hundred_tuples_and_no_more(self):
        letters = "abcdefghijklmnopqrstuvwxyz"
        for many, states, b, m in [
            (24, 2, 4, 1), (24, 2, 1, 4), (4, 3, 4, 1), (9, 6, 1, 1), (2, 4, 0, 4), (26, 1, 4, 4),
        ]:
            conditions = [("least", [0] * states, b), ("turns", [0] * states, m, 0)]
            told = judge_made(rules_of(letters[:many], states, *conditions))
            self.assertLessEqual(len(told[4]), 600)
            self.assertIs(is_judge(told), True)
        self.assertEqual(len(judge_made(rules_of(letters[:24], 2, ("least", [0, 0], 4)))[4]), 600)
        for many, states, b, m in [
            (25, 2, 4, 1), (25, 2, 1, 4), (5, 3, 4, 1), (10, 6, 1, 1), (1, 6, 4, 4), (3, 4, 0, 4),
        ]:
            conditions = [("least", [0] * states, b), ("turns", [0] * states, m, 0)]
            with self.subTest(many=many, states=states):
                with self.assertRaises(TooMany):
                    judge_made(rules_of(letters[:many], states, *conditions))


class Refused(unittest.TestCase):
    def test_no_tree(self):
        for thing in NO_TREES:
            for function in [state_by_rules, rules_let_by]:
                with self.subTest(function=function, thing=thing):
                    with self.assertRaises(NoTree):
                        function(MIXED, thing)

    def test_no_letter(self):
        for tree in [
            leaf("c"), ("c", [leaf("a")]), ("a", [leaf("z")]), ("a", [leaf("a"), leaf("c"), leaf("b")]),
            nested(leaf("c"), 29, lambda x: ("a", [x, leaf("b")])),
        ]:
            for function in [state_by_rules, rules_let_by]:
                with self.subTest(function=function, tree=tree):
                    with self.assertRaises(NoLetter):
                        function(MIXED, tree)

    def test_no_letter_stands_behind_no_tree(self):
        for thing in NO_TREES:
            for tree in [("c", [thing]), ("a", [leaf("c"), thing]), ("a", [thing, leaf("c")])]:
                for function in [state_by_rules, rules_let_by]:
                    with self.assertRaises(NoTree):
                        function(MIXED, tree)


class OwnThings(unittest.TestCase):
    """[2]: nothing handed in is changed or kept, and what is told is the asker's own."""

    def test_what_is_handed_in_stays(self):
        tree = ("a", [leaf("b"), ("b", [leaf("a"), leaf("a")]), leaf("a")])
        for rules in MANY_RULES:
            before = copy.deepcopy((rules, tree))
            order = list(rules[2])
            state_by_rules(rules, tree)
            rules_let_by(rules, tree)
            judge_made(rules)
            self.assertEqual((rules, tree), before)
            self.assertEqual(list(rules[2]), order)
        condition, numbers = ("both", ("least", [1, 2], 2), ("turns", [1, 0], 2, 0)), [2, 3]
        before = copy.deepcopy((condition, numbers))
        is_condition(condition, 2)
        condition_holds(condition, numbers)
        self.assertEqual((condition, numbers), before)

    def test_what_is_refused_stays(self):
        rules = rules_of("ab", 1, ("turns", [1], 3, 0), ("turns", [1], 4, 0))
        tree = ("a", [leaf("b"), leaf("c")])
        before = copy.deepcopy((rules, tree))
        with self.assertRaises(TooMany):
            judge_made(rules)
        with self.assertRaises(NoLetter):
            state_by_rules(rules, tree)
        self.assertEqual((rules, tree), before)

    def test_the_told_judge_is_new(self):
        told = [judge_made(MIXED), judge_made(MIXED)]
        before = copy.deepcopy(told[0])
        self.assertTrue(all_unlike(*told))
        self.assertFalse(share_any(told, MIXED))
        told[0][4].clear()
        told[0][5].append(1)
        self.assertEqual(MIXED[3], [0, 2])
        self.assertEqual(told[1], before)
        self.assertEqual(judge_made(MIXED), before)

    def test_rules_changed_between_are_asked_anew(self):
        rules = copy.deepcopy(MIXED)
        self.assertEqual(state_by_rules(rules, leaf("b")), 1)
        judge_made(rules)
        rules[2]["b"][0] = (("least", [1, 0, 0], 1), 1)
        self.assertEqual(state_by_rules(rules, leaf("b")), 0)
        self.assertEqual(state_of(judge_made(rules), leaf("b")), 0)

    def test_told_things_are_of_the_kinds_told(self):
        told = judge_made(MIXED)
        self.assertIs(type(told), tuple)
        self.assertEqual([type(one) for one in told], [str, int, int, int, dict, list])
        self.assertTrue(all(type(key) is tuple and type(key[1]) is tuple for key in told[4]))
        self.assertIs(type(state_by_rules(MIXED, leaf("a"))), int)


if __name__ == "__main__":
    unittest.main()
