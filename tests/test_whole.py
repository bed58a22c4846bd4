"""[1] to [4] over the whole program: what one file tells is handed in to another one."""

import copy
import unittest
from itertools import combinations, product
from random import Random

from helpers import check_told_anew, leaf, shuffled, state_by_words, told_trees, wide_trees, written
from heaptrees import errors
from heaptrees.apart import alike_paper, alike_shows, parting_surrounding, state_behind
from heaptrees.coming import least_trees, none_paper, none_shows, states_that_come
from heaptrees.countedtrees import count_let_by, count_of, trees_let_by
from heaptrees.desk import Desk
from heaptrees.joining import judges_joined, turned_judge
from heaptrees.judges import is_judge, lets_by, part_states, state_of
from heaptrees.leastjudge import least_judge, put_into, renamed
from heaptrees.sums import judge_made, rules_let_by, state_by_rules
from heaptrees.texts import read_judge, read_tree, show_judge
from heaptrees.trees import are_same, from_heap, heap_of, size_of, told_form, written_tree
from heaptrees.watch import Watch
from heaptrees.within import same_judges, within_shows, within_told

ALWAYS = ("least", [0, 0], 0)

# State 1 are: parts with two children of state 0 at least; parts with an odd size; parts with a b.
TWO = ("ab", 2, {"a": [(("least", [1, 0], 2), 1), (ALWAYS, 0)], "b": [(("least", [1, 0], 2), 1), (ALWAYS, 0)]}, [1])
ODD = ("ab", 2, {"a": [(("turns", [0, 1], 2, 0), 1), (ALWAYS, 0)], "b": [(("turns", [0, 1], 2, 0), 1), (ALWAYS, 0)]}, [1])
SOME_B = ("ab", 2, {"a": [(("least", [0, 1], 1), 1), (ALWAYS, 0)], "b": [(ALWAYS, 1)]}, [1])

RULES = [TWO, ODD, SOME_B]

# Each tree of up to five parts, and wide ones, in several orders of their children.
SMALL = [tree for size in range(1, 6) for tree in told_trees(size, "ab")]
TREES = [*SMALL[::3], *wide_trees("ab")[::9]]
ORDERS = [[shuffled(seed, tree) for seed in range(3)] for tree in TREES]


def by_words(number, tree):
    """Whether the rules at the place let the tree by, without rules and judges."""
    if number == 1:
        return size_of(tree) % 2 == 1
    if number == 2:
        return "b" in written(tree)
    return sum(not by_words(0, child) for child in tree[1]) >= 2


def all_judges():
    """Judges made in each way, and for each whether it should let a tree by."""
    made = [(judge_made(rules), lambda tree, number=number: by_words(number, tree)) for number, rules in enumerate(RULES)]
    told = list(made)
    told += [(turned_judge(judge), lambda tree, due=due: not due(tree)) for judge, due in made]
    for (one, first), (other, second) in combinations(made, 2):
        if len(one[0]) * (max(one[2], other[2]) + max(one[3], other[3])) ** 4 <= 600:
            told.append((judges_joined("both", one, other), lambda tree, first=first, second=second: first(tree) and second(tree)))
            told.append((judges_joined("either", one, other), lambda tree, first=first, second=second: first(tree) or second(tree)))
    return told + [(least_judge(judge), due) for judge, due in told]


JUDGES = all_judges()


class Promise(unittest.TestCase):
    """[4], and [1]: in a heap nothing stands first."""

    def test_there_are_joined_ones(self):
        self.assertGreaterEqual(len(JUDGES), 16)
        self.assertTrue(all(is_judge(judge) for judge, _ in JUDGES))

    def test_judges_made_in_each_way_let_by_just_the_trees_they_should(self):
        for judge, due in JUDGES:
            for tree, orders in zip(TREES, ORDERS):
                for one in orders:
                    self.assertIs(lets_by(judge, one), due(tree))
                    self.assertEqual(state_of(judge, one), state_by_words(judge, tree))

    def test_rules_tell_the_same_in_any_order(self):
        for number, rules in enumerate(RULES):
            for tree, orders in zip(TREES, ORDERS):
                self.assertEqual({state_by_rules(rules, one) for one in orders}, {int(by_words(number, tree))})
                self.assertEqual({rules_let_by(rules, one) for one in orders}, {by_words(number, tree)})

    def test_written_and_read_back_they_tell_the_same(self):
        for judge, due in JUDGES:
            told = read_judge(show_judge(judge))
            for tree, orders in zip(TREES, ORDERS):
                self.assertEqual({lets_by(told, read_tree(written_tree(one))) for one in orders}, {due(tree)})

    def test_counted_and_told_trees_are_those_let_by(self):
        for judge, due in JUDGES:
            for size in range(1, 6):
                trees = [tree for tree in SMALL if size_of(tree) == size and due(tree)]
                self.assertEqual(count_let_by(judge, size), len(trees))
                self.assertEqual(trees_let_by(judge, size), sorted([told_form(tree) for tree in trees], key=written))
                self.assertEqual(sum(count_of(judge, size, state) for state in states_that_come(judge)), [2, 4, 14, 52, 214][size - 1])

    def test_watched_trees_tell_what_judges_tell(self):
        chance = Random(1)
        for judge, due in JUDGES:
            # A watch is led to the tree child by child, in any order, and past other ones.
            for tree in SMALL[::11]:
                watch = Watch(judge, leaf(tree[0]))
                children = list(tree[1])
                chance.shuffle(children)
                for child in children:
                    watch.put([], shuffled(chance.randrange(99), child))
                    watch.put([], leaf("b"))
                    watch.take([len(watch.tree()[1]) - 1])
                self.assertTrue(are_same(watch.tree(), tree))
                self.assertIs(watch.good(), due(tree))
                self.assertEqual(watch.state_at([]), part_states(judge, tree)[-1])

    def test_a_desk_tells_what_the_stages_tell(self):
        for judge, due in JUDGES:
            desk = Desk()
            desk.say(f"judge one {show_judge(judge)}")
            desk.say("turn other one")
            desk.say("least one one")
            for tree in TREES:
                row = f"{written_tree(shuffled(5, tree))}"
                self.assertEqual(desk.say(f"good one {row}"), "yes" if due(tree) else "no")
                self.assertEqual(desk.say(f"good other {row}"), "no" if due(tree) else "yes")

    def test_a_state_that_comes_has_a_least_tree(self):
        for judge, _ in JUDGES:
            trees = least_trees(judge)
            self.assertEqual(sorted(trees), states_that_come(judge))
            for state, tree in trees.items():
                smaller = [one for one in SMALL if size_of(one) < size_of(tree)]
                self.assertEqual(state_by_words(judge, tree), state)
                self.assertNotIn(state, [state_by_words(judge, one) for one in smaller])

    def test_where_none_comes_a_paper_shows_it(self):
        for judge, due in JUDGES:
            paper = none_paper(judge)
            self.assertIs(paper is None, any(due(tree) for tree in SMALL))
            if paper is not None:
                self.assertIs(none_shows(judge, paper), True)

    def test_one_is_within_another_one_or_a_tree_tells_that_it_is_not(self):
        for (one, first), (other, second) in product(JUDGES, repeat=2):
            word, told = within_told(one, other)
            denied = [size_of(tree) for tree in SMALL if first(tree) and not second(tree)]
            if word == "within":
                self.assertEqual(denied, [])
                self.assertIs(within_shows(one, other, told), True)
            else:
                self.assertTrue(first(told) and not second(told))
                self.assertEqual([size_of(told)], denied[:1] or [size_of(told)])
            self.assertIs(same_judges(one, other), within_told(other, one)[0] == "within" == word)

    def test_no_judge_has_fewer_states_than_the_least(self):
        for (one, _), (other, _) in product(JUDGES, repeat=2):
            if same_judges(one, other):
                self.assertLessEqual(least_judge(one)[1], other[1])
                self.assertEqual(least_judge(one)[1], least_judge(other)[1])
                if one[2:4] == other[2:4]:
                    self.assertIsNotNone(renamed(one, other))

    def test_states_are_alike_just_where_no_surrounding_parts_them(self):
        for judge, due in JUDGES:
            trees = least_trees(judge)
            paper = alike_paper(judge)
            self.assertIs(alike_shows(judge, paper), True)
            for p, q in product(trees, repeat=2):
                surrounding = parting_surrounding(judge, p, q)
                self.assertEqual(surrounding is None, any(p in group and q in group for group in paper))
                if surrounding is not None:
                    self.assertNotEqual(*[due(put_into(surrounding, trees[state])) for state in (p, q)])
                    self.assertNotEqual(*[state_behind(judge, surrounding, state) in judge[5] for state in (p, q)])


class ToldThingsAreHandedIn(unittest.TestCase):
    """[2]: what is told may be handed in wherever its kind is; the same asked is answered the same."""

    def test_trees_that_are_deeper_and_greater(self):
        judge = judge_made(ODD)
        tree = leaf("a")
        for _ in range(40):
            tree = put_into([("a", [leaf("b")])] * 30, tree)
        self.assertEqual(size_of(tree), 2401)
        self.assertIs(lets_by(judge, tree), True)
        self.assertEqual(len(part_states(judge, tree)), 2401)
        watch = Watch(judge, tree)
        self.assertEqual(written_tree(watch.tree()), written_tree(tree))
        self.assertTrue(are_same(read_tree(written_tree(tree)), tree))
        self.assertEqual(size_of(from_heap("a", heap_of(tree))), 2401)
        # Odd sizes together: 2401 and one more; then that, 2401 and one.
        self.assertEqual([state_behind(judge, [tree], 1), state_behind(judge, [tree, ("b", [tree])], 1)], [0, 0])

    def test_answers_are_the_same_and_no_two_lists_are_one(self):
        one, other = judge_made(ODD), judge_made(SOME_B)
        tree = ("a", [leaf("b"), ("b", [leaf("a"), leaf("a")])])
        asked = [
            lambda: part_states(one, tree), lambda: told_form(tree), lambda: heap_of(tree), lambda: judge_made(TWO),
            lambda: turned_judge(one), lambda: judges_joined("both", other, other), lambda: states_that_come(one), lambda: least_trees(one),
            lambda: none_paper(judges_joined("both", other, turned_judge(other))), lambda: within_told(one, one), lambda: within_told(one, other),
            lambda: put_into([tree, tree], tree), lambda: least_judge(one), lambda: renamed(one, one), lambda: parting_surrounding(one, 0, 1),
            lambda: alike_paper(one), lambda: trees_let_by(one, 3), lambda: read_tree("a(bc)"), lambda: read_judge(show_judge(one)),
            lambda: Watch(one, tree).put([1], tree), lambda: Watch(one, tree).take([1, 0]), lambda: Watch(one, tree).tree(),
        ]
        before = copy.deepcopy((one, other, tree, TWO))
        for ask in asked:
            check_told_anew(self, ask, (one, other, tree, TWO))
            self.assertEqual((one, other, tree, TWO), before)


class Refusals(unittest.TestCase):
    """[3]: each refusal is of its class, and made with one text."""

    def test_each_class_and_its_text(self):
        odd = judge_made(ODD)
        every = judge_made(("abcdefgh", 1, {letter: [(("least", [0], 0), 0)] for letter in "abcdefgh"}, [0]))
        for error, ask in [
            (errors.NoTree, lambda: put_into([None], leaf("a"))), (errors.NoTree, lambda: Watch(odd, None)),
            (errors.NoLetter, lambda: Watch(odd, leaf("c"))), (errors.NoLetter, lambda: state_behind(odd, [leaf("c")], 0)),
            (errors.NoFit, lambda: within_told(odd, every)), (errors.NoFit, lambda: same_judges(odd, every)),
            (errors.NoFit, lambda: within_shows(odd, every, [])), (errors.NoFit, lambda: renamed(odd, every)),
            (errors.TooMany, lambda: trees_let_by(every, 7)), (errors.NoNumber, lambda: trees_let_by(odd, 8)),
            (errors.NoNumber, lambda: count_of(odd, 25, 0)), (errors.NoNumber, lambda: parting_surrounding(odd, 0, 2)),
            (errors.NoNumber, lambda: Watch(odd, leaf("a")).take([])), (errors.NoText, lambda: read_tree("b(ba")),
            (errors.NoText, lambda: read_judge("a")), (errors.NoRow, lambda: Desk().say(None)), (errors.NoName, lambda: Desk().say("show a")),
        ]:
            with self.assertRaises(errors.HeapError) as caught:
                ask()
            self.assertIs(type(caught.exception), error)
            self.assertEqual(error.__bases__, (errors.HeapError,))
            self.assertEqual(len(caught.exception.args), 1)
            self.assertIs(type(str(caught.exception)), str)
            self.assertEqual(str(caught.exception), caught.exception.args[0])


if __name__ == "__main__":
    unittest.main()
