"""[2], [3], [5], [6], [7]: trees."""

import copy
import unittest
from collections import Counter
from itertools import permutations

from helpers import (
    BAD_PARTS, NO_TREES, all_unlike, leaf, nested, row_of, share_any, trees_up_to,
)
from heaptrees.errors import HeapError, NoTree
from heaptrees.trees import (
    are_same, depth_of, from_heap, heap_of, is_tree, size_of, told_form, written_tree,
)

MIXED = ("a", [("c", []), ("b", [("z", []), ("d", [])]), ("c", []), ("b", [("d", []), ("z", [])])])
SINGLE = [size_of, depth_of, told_form, written_tree, heap_of]


def same_by_words(one, other):
    """[6] word by word: each order of the one's children is tried against the other's."""
    if one[0] != other[0] or len(one[1]) != len(other[1]):
        return False
    return any(
        all(same_by_words(x, y) for x, y in zip(row, other[1])) for row in permutations(one[1])
    )


def told_by_words(tree):
    children = sorted([told_by_words(child) for child in tree[1]], key=plainly_written)
    return (tree[0], children)


def plainly_written(tree):
    """The writing of a tree as its children stand."""
    if not tree[1]:
        return tree[0]
    return tree[0] + "(" + "".join(plainly_written(child) for child in tree[1]) + ")"


class IsTree(unittest.TestCase):
    def test_trees(self):
        for letter in "abcdefghijklmnopqrstuvwxyz":
            self.assertIs(is_tree((letter, [])), True)
        for tree in [MIXED, row_of("q", 30), ("a", [leaf("b")] * 59), row_of("a", 3000)]:
            self.assertIs(is_tree(tree), True)
        self.assertIs(is_tree(("a", [leaf("b") for _ in range(20000)])), True)

    def test_what_is_none(self):
        for thing in NO_TREES:
            with self.subTest(thing):
                self.assertIs(is_tree(thing), False)

    def test_one_bad_part_far_below_or_behind(self):
        for bad in BAD_PARTS:
            with self.subTest(bad):
                self.assertIs(is_tree(nested(bad, 45, lambda x: ("a", [x]))), False)
                self.assertIs(is_tree(("a", [*[leaf("b")] * 58, bad])), False)
                self.assertIs(is_tree(("a", [bad, *[leaf("b")] * 58])), False)

    def test_each_place_of_a_tree(self):
        self.assertIs(is_tree(("a", [("b", [("c", [])])])), True)
        for thing in [
            ["a", [("b", [("c", [])])]], ("A", [("b", [("c", [])])]), ("a", (("b", [("c", [])]),)),
            ("a", [["b", [("c", [])]]]), ("a", [("bb", [("c", [])])]), ("a", [("b", (("c", []),))]),
            ("a", [("b", [("c", [])], 0)]), ("a", [("b", [("c", ())])]), ("a", [("b", [("", [])])]),
            ("a", [("b", [("c", []), None])]), ("a", [("b", ["c"])]), ("a", ["b"]),
        ]:
            with self.subTest(thing):
                self.assertIs(is_tree(thing), False)


class SizesAndDepths(unittest.TestCase):
    def test_sizes(self):
        self.assertEqual(size_of(leaf("a")), 1)
        self.assertEqual(size_of(MIXED), 9)
        self.assertEqual(size_of(row_of("a", 30)), 30)
        self.assertEqual(size_of(("a", [leaf("b")] * 59)), 60)

    def test_depths(self):
        self.assertEqual(depth_of(leaf("a")), 1)
        self.assertEqual(depth_of(MIXED), 3)
        self.assertEqual(depth_of(row_of("a", 30)), 30)
        self.assertEqual(depth_of(("a", [leaf("b")] * 59)), 2)
        self.assertEqual(depth_of(("a", [row_of("b", 4), leaf("c")])), 5)
        self.assertEqual(depth_of(("a", [leaf("c"), row_of("b", 4), leaf("c")])), 5)

    def test_parts_that_are_one_thing_count_at_each_place(self):
        twice = ("b", [leaf("c")])
        self.assertEqual(size_of(("a", [twice, twice])), 5)

    def test_deeper_than_python_lets_calls_be(self):
        deep = row_of("a", 3000)
        self.assertEqual((size_of(deep), depth_of(deep)), (3000, 3000))
        # No assertEqual of what is long: telling where two such differ takes it minutes.
        self.assertTrue(written_tree(deep) == "a(" * 2999 + "a" + ")" * 2999)
        self.assertTrue(written_tree(told_form(deep)) == written_tree(deep))
        self.assertEqual(written_tree(("a", [deep, leaf("b"), row_of("a", 3000)]))[-2:], "b)")
        self.assertIs(are_same(deep, row_of("a", 3000)), True)
        self.assertEqual(heap_of(("a", [deep, row_of("a", 3000)]))[0][1], 2)
        self.assertEqual(size_of(from_heap("b", [(row_of("a", 1400), 2)])), 2801)


class ToldForms(unittest.TestCase):
    def test_writings_by_hand(self):
        for tree, writing in [
            (leaf("a"), "a"),
            (("a", [leaf("b")]), "a(b)"),
            (row_of("a", 4), "a(a(a(a)))"),
            (("a", [leaf("c"), leaf("b")]), "a(bc)"),
            (("a", [("b", [leaf("c")]), leaf("b")]), "a(bb(c))"),
            (("a", [leaf("b"), ("b", [leaf("c")])]), "a(bb(c))"),
            (("a", [leaf("c"), ("b", [leaf("z")]), leaf("b")]), "a(bb(z)c)"),
            (("a", [("b", [("c", [])]), ("b", [("b", []), ("b", [])])]), "a(b(bb)b(c))"),
            (("a", [("b", [leaf("a"), leaf("b")]), ("b", [leaf("a")])]), "a(b(a)b(ab))"),
            (("a", [("b", [leaf("a")]), ("b", [("a", [leaf("a")])])]), "a(b(a(a))b(a))"),
            (MIXED, "a(b(dz)b(dz)cc)"),
        ]:
            with self.subTest(writing):
                self.assertEqual(written_tree(tree), writing)

    def test_told_forms_by_hand(self):
        b = ("b", [("d", []), ("z", [])])
        self.assertEqual(told_form(MIXED), ("a", [b, b, ("c", []), ("c", [])]))
        self.assertEqual(told_form(leaf("q")), ("q", []))
        self.assertEqual(
            told_form(("a", [("b", [("c", [])]), ("b", [])])), ("a", [("b", []), ("b", [("c", [])])])
        )

    def test_sorted_by_texts_not_by_sizes_or_pythons_order_of_trees(self):
        # As texts "a(a(a))" < "a(a)" ; as tuples and lists the leaf would come first.
        one = ("x", [("a", [("a", [])]), ("a", [("a", [("a", [])])])])
        self.assertEqual(written_tree(one), "x(a(a(a))a(a))")
        self.assertEqual(told_form(one)[1], [("a", [("a", [("a", [])])]), ("a", [("a", [])])])

    def test_of_all_small_trees(self):
        for tree in trees_up_to(5, "ab"):
            with self.subTest(tree):
                self.assertEqual(told_form(tree), told_by_words(tree))
                self.assertEqual(written_tree(tree), plainly_written(told_by_words(tree)))
                self.assertEqual(told_form(told_form(tree)), told_form(tree))

    def test_are_same_of_all_small_trees(self):
        trees = trees_up_to(4, "ab")
        for one in trees:
            for other in trees:
                self.assertIs(are_same(one, other), same_by_words(one, other))

    def test_are_same_by_hand(self):
        one = ("a", [leaf("b"), ("c", [leaf("d"), leaf("e")]), leaf("b")])
        self.assertIs(are_same(one, ("a", [("c", [leaf("e"), leaf("d")]), leaf("b"), leaf("b")])), True)
        self.assertIs(are_same(one, ("a", [("c", [leaf("e"), leaf("d")]), leaf("b")])), False)
        self.assertIs(are_same(one, ("b", one[1])), False)
        self.assertIs(are_same(leaf("a"), leaf("a")), True)
        self.assertIs(are_same(leaf("a"), leaf("b")), False)
        self.assertIs(are_same(("a", [row_of("b", 2)]), ("a", [leaf("b"), leaf("b")])), False)


class Heaps(unittest.TestCase):
    def test_heaps_by_hand(self):
        self.assertEqual(heap_of(leaf("a")), [])
        self.assertEqual(heap_of(("a", [leaf("b")])), [(leaf("b"), 1)])
        self.assertEqual(
            heap_of(("a", [leaf("c"), leaf("b"), leaf("c")])), [(leaf("b"), 1), (leaf("c"), 2)]
        )
        self.assertEqual(
            heap_of(MIXED), [(("b", [leaf("d"), leaf("z")]), 2), (leaf("c"), 2)]
        )
        self.assertEqual(heap_of(("a", [leaf("b")] * 59)), [(leaf("b"), 59)])

    def test_heaps_of_all_small_trees(self):
        for tree in trees_up_to(5, "ab"):
            counted = Counter(written_tree(child) for child in tree[1])
            told = heap_of(tree)
            self.assertEqual([(written_tree(c), n) for c, n in told], sorted(counted.items()))
            self.assertEqual([told_form(c) for c, _ in told], [c for c, _ in told])
            self.assertEqual(from_heap(tree[0], told), told_form(tree))
            self.assertEqual(from_heap(tree[0], told[::-1]), told_form(tree))
            self.assertEqual(from_heap(tree[0], [(c, 1) for c in tree[1]]), told_form(tree))

    def test_from_heap_by_hand(self):
        self.assertEqual(from_heap("a", []), ("a", []))
        self.assertEqual(from_heap("z", [(leaf("b"), 1)]), ("z", [leaf("b")]))
        self.assertEqual(
            from_heap("a", [(leaf("c"), 2), (("b", [leaf("z"), leaf("d")]), 1)]),
            ("a", [("b", [leaf("d"), leaf("z")]), leaf("c"), leaf("c")]),
        )

    def test_like_children_at_several_places_are_put_together(self):
        one = ("b", [leaf("z"), leaf("d")])
        other = ("b", [leaf("d"), leaf("z")])
        told = from_heap("a", [(one, 1), (leaf("c"), 1), (other, 2), (leaf("c"), 1)])
        self.assertEqual(told, ("a", [other, other, other, leaf("c"), leaf("c")]))
        self.assertEqual(heap_of(told), [(other, 3), (leaf("c"), 2)])

    def test_three_thousand_parts(self):
        self.assertEqual(size_of(from_heap("a", [(leaf("b"), 2999)])), 3000)
        heap = [(leaf("b"), 1) for _ in range(2999)]
        self.assertEqual(heap_of(from_heap("a", heap)), [(leaf("b"), 2999)])
        self.assertEqual(size_of(from_heap("a", [(("b", [leaf("c")] * 59), 49)])), 2941)


class Refused(unittest.TestCase):
    def test_no_tree_of_each_function(self):
        for thing in NO_TREES:
            for function in SINGLE:
                with self.subTest(function=function, thing=thing):
                    with self.assertRaises(NoTree) as caught:
                        function(thing)
                    self.assertIs(type(caught.exception), NoTree)
                    self.assertIsInstance(caught.exception, HeapError)

    def test_no_tree_as_the_first_and_the_second(self):
        for thing in NO_TREES:
            for one, other in [(thing, leaf("a")), (leaf("a"), thing), (thing, thing)]:
                with self.subTest(one=one, other=other):
                    with self.assertRaises(NoTree):
                        are_same(one, other)

    def test_no_letter_of_a_heap(self):
        for letter in [
            None, True, 0, 97, "", "ab", "A", "`", "{", "\u00e4", "a\n", b"a", ["a"], ("a",), {}, leaf("a"),
        ]:
            for heap in [[], [(leaf("a"), 1)], [(leaf("a"), 0)], [(None, 1)]]:
                with self.subTest(letter=letter, heap=heap):
                    with self.assertRaises(NoTree):
                        from_heap(letter, heap)

    def test_no_child_of_a_heap(self):
        for thing in NO_TREES:
            for heap in [
                [(thing, 1)], [(leaf("a"), 1), (thing, 2)], [(thing, 1), (leaf("a"), 2)], [(thing, 0)],
            ]:
                with self.subTest(heap):
                    with self.assertRaises(NoTree):
                        from_heap("a", heap)

    def test_no_number_of_a_heap(self):
        for many in [0, -1, -10 ** 29, True, False, None, "1", b"1", [], [1], (1,), {}, leaf("a")]:
            for heap in [
                [(leaf("a"), many)],
                [(leaf("a"), 1), (leaf("a"), many)],
                [(leaf("a"), many), (leaf("b"), 2)],
            ]:
                with self.subTest(heap):
                    with self.assertRaises(NoTree):
                        from_heap("a", heap)

    def test_heaps_of_other_kinds(self):
        good = (leaf("a"), 1)
        for heap in [
            None, True, 0, "", "ab", b"", (), (good,), {}, {0: good}, set(), [None], [[leaf("a"), 1]],
            [leaf("a")], [(leaf("a"),)], [(leaf("a"), 1, 1)], [good, ()], ["ab"], [(1, leaf("a"))],
        ]:
            with self.subTest(heap):
                with self.assertRaises(NoTree):
                    from_heap("a", heap)


class OwnThings(unittest.TestCase):
    """[2]: nothing handed in is changed or kept, and what is told is the asker's own."""

    def shared(self):
        children = [leaf("z"), leaf("d")]
        part = ("b", children)
        return ("a", [part, ("c", children), part])

    def test_what_is_handed_in_stays(self):
        for tree in [MIXED, self.shared()]:
            before = copy.deepcopy(tree)
            for function in [is_tree, *SINGLE]:
                function(tree)
            are_same(tree, tree)
            self.assertEqual(tree, before)
        heap = [(MIXED, 2), (self.shared(), 1), (MIXED, 1)]
        before = copy.deepcopy(heap)
        from_heap("a", heap)
        self.assertEqual(heap, before)

    def test_a_refused_heap_stays(self):
        heap = [(self.shared(), 2), (leaf("a"), 0)]
        before = copy.deepcopy(heap)
        with self.assertRaises(NoTree):
            from_heap("a", heap)
        self.assertEqual(heap, before)

    def test_no_list_told_is_one_that_was_handed_in_or_told(self):
        for tree in [leaf("a"), MIXED, self.shared()]:
            told = [told_form(tree), told_form(tree), heap_of(tree), heap_of(tree)]
            self.assertTrue(all_unlike(*told))
            for one in told:
                self.assertFalse(share_any(one, tree))
        for heap in [[], [(MIXED, 3), (self.shared(), 2)], [(leaf("b"), 9), (leaf("b"), 1)]]:
            told = [from_heap("a", heap), from_heap("a", heap)]
            self.assertTrue(all_unlike(*told))
            self.assertFalse(share_any(told, heap))

    def test_one_list_at_two_places_is_told_as_two(self):
        told = told_form(self.shared())
        told[1][0][1].clear()
        self.assertEqual(written_tree(told), "a(bb(dz)c(dz))")
        heap = heap_of(("x", [self.shared(), self.shared()]))
        heap[0][0][1][0][1].clear()
        self.assertEqual(written_tree(heap[0][0]), "a(bb(dz)c(dz))")
        many = from_heap("x", [(("y", []), 3)])
        many[1][0][1].append(leaf("a"))
        self.assertEqual(written_tree(many), "x(yyy(a))")

    def test_changing_what_was_told_changes_nothing_told_later(self):
        for function in [told_form, heap_of]:
            first = function(MIXED)
            before = copy.deepcopy(first)
            (first[1] if function is told_form else first).clear()
            self.assertEqual(function(MIXED), before)
        from_heap("a", [])[1].append(leaf("b"))
        self.assertEqual(from_heap("a", []), ("a", []))
        told_form(leaf("a"))[1].append(leaf("b"))
        self.assertEqual(told_form(leaf("a")), ("a", []))

    def test_told_things_are_of_the_kinds_told(self):
        told = told_form(MIXED)
        self.assertIs(type(told), tuple)
        self.assertIs(type(told[1]), list)
        heap = heap_of(MIXED)
        self.assertIs(type(heap), list)
        self.assertTrue(all(type(row) is tuple and type(row[1]) is int for row in heap))
        self.assertTrue(is_tree(told) and all(is_tree(row[0]) for row in heap))
        self.assertIs(type(size_of(MIXED)), int)
        self.assertIs(type(depth_of(MIXED)), int)
        self.assertIs(type(written_tree(MIXED)), str)
        self.assertTrue(is_tree(from_heap("a", heap)))

    def test_the_same_asked_again_is_answered_the_same(self):
        for function in SINGLE:
            self.assertEqual(function(MIXED), function(MIXED))


if __name__ == "__main__":
    unittest.main()
