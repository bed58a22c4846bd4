"""[2], [3], [25]: trees and judges read back from their writings."""

import copy
import tracemalloc
import unittest
from itertools import product

from helpers import (
    OTHER_KINDS, chance_judge, changed, check_told_anew, grown_otherwise, judge_by, leaf, row_of,
    told_trees, written,
)
from heaptrees.errors import HeapError, NoText
from heaptrees.joining import judges_joined, turned_judge
from heaptrees.judges import is_judge
from heaptrees.texts import read_judge, read_tree, show_judge
from heaptrees.trees import depth_of, is_tree, size_of, told_form, written_tree

EVEN = judge_by("a", 2, 0, 2, lambda letter, row: (1 + row[1]) % 2, [0])
NO_B = judge_by("ab", 2, 1, 1, lambda letter, row: int(letter == "b" or row[1] > 0), [0])
GREATEST = judge_by("abcdefghijklmnopqrstuvwx", 2, 4, 1, lambda letter, row: max(row) % 2, [0, 1])

JUDGES = [
    EVEN, NO_B, GREATEST, turned_judge(NO_B), judges_joined("both", NO_B, NO_B),
    judge_by("z", 1, 0, 1, lambda letter, row: 0, []), judge_by("z", 1, 4, 4, lambda letter, row: 0, [0]),
    judge_by("am", 1, 0, 4, lambda letter, row: 0, [0]), judge_by("a", 3, 4, 4, lambda letter, row: sum(row) % 3, [0, 2]),
    judge_by("abc", 6, 1, 1, lambda letter, row: sum(row) % 6, [0, 1, 2, 3, 4, 5]),
    judge_by("abcdefghijklmnopqrstuvwxyz", 2, 0, 4, lambda letter, row: row[0] % 2, [1]),
    *[chance_judge(seed, "ab", *row) for seed in range(2) for row in product((1, 2, 3), (0, 2), (1, 2))],
]

NO_TEXTS = [thing for thing in OTHER_KINDS if not isinstance(thing, str)] + [["a"], ("a",), leaf("a"), EVEN, ["a", "b"]]


def shown(judge):
    """[25] word by word."""
    letters, states, few, turn, table, good = judge
    rows = sorted((letters.index(letter), classes, state) for (letter, classes), state in table.items())
    return " ".join([
        letters, str(states), str(few), str(turn), ",".join(map(str, good)) or "-", "".join(str(row[2]) for row in rows),
    ])


class ReadTree(unittest.TestCase):
    def test_by_hand(self):
        for text, tree in [
            ("a", leaf("a")), ("z", leaf("z")), ("a(b)", ("a", [leaf("b")])), ("b(aa)", ("b", [leaf("a"), leaf("a")])),
            ("a(b(d)cc)", ("a", [("b", [leaf("d")]), leaf("c"), leaf("c")])), ("a(a(a))", row_of("a", 3)),
            # A blank is ahead of all letters and (, but in no writing: b is ahead of b(a).
            ("x(bb(a)c)", ("x", [leaf("b"), ("b", [leaf("a")]), leaf("c")])),
            ("x(b(a(z))b(ab))", ("x", [("b", [("a", [leaf("z")])]), ("b", [leaf("a"), leaf("b")])])),
        ]:
            with self.subTest(text):
                self.assertEqual(read_tree(text), tree)

    def test_all_small_trees(self):
        for letters, most in [("a", 8), ("ab", 5), ("xyz", 4)]:
            for size in range(1, most + 1):
                for tree in told_trees(size, letters):
                    told = read_tree(written(tree))
                    self.assertEqual(told, told_form(tree))
                    self.assertIs(is_tree(told), True)

    def test_all_short_texts(self):
        writings = {written(tree) for size in range(1, 6) for tree in told_trees(size, "ab")}
        read = 0
        for many in range(8):
            for signs in product("ab()", repeat=many):
                text = "".join(signs)
                if text in writings:
                    read += 1
                    self.assertEqual(written(read_tree(text)), text)
                else:
                    with self.assertRaises(NoText):
                        read_tree(text)
        self.assertEqual(read, len([text for text in writings if len(text) <= 7]))

    def test_what_only_looks_like_a_writing(self):
        for text in [
            "", " ", "()", "(", ")", "a()", "a(b", "a(b))", "(a)", "a)", "a(", "ab", "a(b)c", "a(b)(c)", "a((b))", "a(b()c)",
            "a(cb)", "a(b(c)b)", "a(ca)", "x(b(d)b(c))", "A", "a(B)", "A(b)", "a (b)", "a( b)", "a(b )", " a", "a ", "a(b c)",
            "a\n", "\na", "a\t", "a(b)\n", "a,b", "a(b,c)", "a[b]", "a{b}", "1", "a1", "a(1)", "-", "a-", "a\u00e4", "\u00e4",
            "\u0430", "a\uff08b\uff09", "a(b)a(b)", "a(bb", "a(bb)b", "\x00", "a\x00", "a(b(c(d(e)))", "a(b(c(d(e)))))", "~", "`", "{",
        ]:
            with self.subTest(text):
                with self.assertRaises(NoText) as caught:
                    read_tree(text)
                self.assertIsInstance(caught.exception, HeapError)

    def test_other_kinds(self):
        for thing in NO_TEXTS:
            with self.subTest(thing):
                with self.assertRaises(NoText):
                    read_tree(thing)

    def test_wide_and_deep(self):
        wide = f"a({'b' * 2997})"
        self.assertEqual((len(wide), size_of(read_tree(wide))), (3000, 2998))
        deep = "a(" * 999 + "a" + ")" * 999
        told = read_tree(deep)
        self.assertEqual((depth_of(told), size_of(told)), (1000, 1000))
        self.assertTrue(written_tree(told) == deep)
        both = "a(" * 700 + "b" * 800 + ")" * 700
        self.assertEqual((depth_of(read_tree(both)), size_of(read_tree(both))), (701, 1500))
        self.assertEqual(depth_of(read_tree(written_tree(row_of("k", 3000)))), 3000)

    def test_wide_and_deep_ones_that_are_none(self):
        for text in [
            "a" * 3000, "(" * 3000, ")" * 3000, "a(" * 1500, "a(" * 1000 + "a" + ")" * 999, "a(" * 999 + "a" + ")" * 1000,
            f"a({'b' * 2000}a)", "a(" * 700 + "ba" + ")" * 700, "a(" * 1400 + ")" * 1400, f"a({'b' * 2996} )", " " * 3000, "1" * 3000,
        ]:
            with self.assertRaises(NoText):
                read_tree(text)


class ShowJudge(unittest.TestCase):
    def test_by_hand(self):
        self.assertEqual(show_judge(EVEN), "a 2 0 2 0 1010")
        self.assertEqual(show_judge(NO_B), "ab 2 1 1 0 01011111")
        self.assertEqual(show_judge(changed(NO_B, 5, [])), "ab 2 1 1 - 01011111")
        self.assertEqual(show_judge(changed(NO_B, 5, [0, 1])), "ab 2 1 1 0,1 01011111")
        self.assertEqual(show_judge(judge_by("z", 1, 4, 4, lambda letter, row: 0, [0])), "z 1 4 4 0 00000000")
        six = judge_by("qx", 6, 0, 1, lambda letter, row: 5 if letter == "q" else 3, [1, 3, 5])
        self.assertEqual(show_judge(six), "qx 6 0 1 1,3,5 53")

    def test_by_words(self):
        for judge in JUDGES:
            self.assertEqual(show_judge(judge), shown(judge))

    def test_the_order_in_which_the_table_grew_does_not_matter(self):
        for judge in JUDGES:
            self.assertEqual(show_judge(grown_otherwise(2, judge)), shown(judge))

    def test_no_two_judges_have_one_writing(self):
        self.assertEqual(len({show_judge(judge) for judge in JUDGES}), len({shown(judge) for judge in JUDGES}))


class ReadJudge(unittest.TestCase):
    def test_by_hand(self):
        self.assertEqual(read_judge("ab 2 1 1 0 01011111"), NO_B)
        self.assertEqual(read_judge("ab 2 1 1 - 01011111"), changed(NO_B, 5, []))
        self.assertEqual(read_judge("z 1 0 1 0 0"), judge_by("z", 1, 0, 1, lambda letter, row: 0, [0]))

    def test_read_back(self):
        for judge in JUDGES:
            told = read_judge(show_judge(judge))
            self.assertIs(is_judge(told), True)
            self.assertEqual(told, judge)

    def test_what_writes_none(self):
        for text in [
            "", " ", "     ", "a", "ab 2 1 1 0", "ab 2 1 1 0 ", "ab 2 1 1 0 01011111 ", " ab 2 1 1 0 01011111",
            "ab  2 1 1 0 01011111", "ab 2 1 1 0  01011111", "ab 2 1 1 0 0101 1111", "ab 2 1 1 0 01011111\n", "ab\t2 1 1 0 01011111",
            "ab 2 1 1 0 01011111 0", "ab 2 1 1 01011111", "ab,2,1,1,0,01011111",
            # Numbers with a nought ahead, with signs beside figures, or beyond the bounds.
            "ab 02 1 1 0 01011111", "ab 2 01 1 0 01011111", "ab 2 1 01 0 01011111", "ab 2 1 1 00 01011111", "ab +2 1 1 0 01011111",
            "ab 2 +1 1 0 01011111", "ab 2 1 -1 0 01011111", "ab 2 1 1 +0 01011111", "ab 2 1 1 -0 01011111", "ab 2.0 1 1 0 01011111",
            "ab 2 1_0 1 0 01011111", "ab two 1 1 0 01011111", "ab \u0662 1 1 0 01011111", "ab 2 \uff11 1 0 01011111", "ab 2 1 1 \u0660 01011111",
            "ab 2 1 1 0 0101111\u0661", "ab 0 1 1 - ", "ab 0 1 1 - 00", "a 7 0 1 0 0", "a 1 5 1 0 000000", "a 1 0 5 0 00000", "a 1 0 0 - ",
            "a 1 1 0 0 0", "a 1 9 9 0 " + "0" * 18, "a 9 0 1 0 0", "a 10 0 1 0 0", "a 1 -1 2 0 0", "a -1 1 1 - 0", "a - 1 1 - 0", "ab -1 1 1 - 00",
            # Good states unsorted, twice, beyond, or written otherwise.
            "ab 2 1 1 1,0 01011111", "ab 2 1 1 0,0 01011111", "ab 2 1 1 2 01011111", "ab 2 1 1 0,2 01011111", "ab 2 1 1 0, 01011111",
            "ab 2 1 1 ,0 01011111", "ab 2 1 1 , 01011111", "ab 2 1 1 0,,1 01011111", "ab 2 1 1 0;1 01011111", "ab 2 1 1 01 01011111",
            "ab 2 1 1 -,0 01011111", "ab 2 1 1 0,- 01011111", "ab 2 1 1 -- 01011111", "ab 2 1 1 0, 1 01011111", "ab 2 1 1 [0] 01011111",
            "ab 2 1 1 -1 01011111", "ab 2 1 1 a 01011111", "ab 2 1 1 0,1,2 01011111", "ab 2 1 1 10 01011111",
            # Letters that do not rise, or are none.
            "ba 2 1 1 0 01011111", "aa 2 1 1 0 01011111", "aB 2 1 1 0 01011111", "AB 2 1 1 0 01011111", " 2 1 1 0 0101", "a1 2 1 1 0 01011111",
            "a\u00e4 2 1 1 0 01011111", "a- 2 1 1 0 01011111", "- 2 1 1 0 0101", "a,b 2 1 1 0 010111110101",
            # Tables too short, too long, or with a state beyond.
            "ab 2 1 1 0 0101111", "ab 2 1 1 0 010111110", "ab 2 1 1 0 01011112", "ab 2 1 1 0 21011111", "ab 2 1 1 0 0101111-", "ab 2 1 1 0 0101111a",
            "ab 2 1 1 0 0,1,0,1,1,1,1,1", "ab 2 1 1 0 -", "a 1 0 1 0 1", "a 1 0 1 0 9", "a 6 0 1 0 6",
        ]:
            with self.subTest(text):
                with self.assertRaises(NoText) as caught:
                    read_judge(text)
                self.assertIsInstance(caught.exception, HeapError)

    def test_too_great_a_table(self):
        for letters, states, few, turn in [
            ("abcdefghijklmnopqrs", 5, 1, 1), ("abcdefghijklmnopqrstuvwxy", 2, 4, 1), ("a", 6, 2, 1), ("ab", 3, 4, 4), ("abcde", 3, 4, 1),
        ]:
            judge = judge_by(letters, states, few, turn, lambda letter, row: 0, [0])
            with self.assertRaises(NoText):
                read_judge(shown(judge))
        for text in ["abc 6 4 4 0 " + "0" * 2980, "abcdefghijklmnopqrstuvwxyz 6 4 4 - 0", "a 9 9 9 0 " + "0" * 2900]:
            with self.assertRaises(NoText):
                read_judge(text)

    def test_what_writes_none_is_refused_without_a_great_table(self):
        # From small numbers to great ones: where memory is taken, the first failure comes ahead of what ends the program.
        short = [*product("123456", ["-", "0"]), *product("23456", ["0,1"])]
        tracemalloc.start()
        self.addCleanup(tracemalloc.stop)
        for states, few, turn in sorted(product(["", *"0123456789", "-", "-1", "99"], repeat=3), key=lambda row: (len("".join(row)), row)):
            for letters, good, figures in product(["", "-", "A", "aa", "b"], ["", "-", "0", "0,1"], ["", "0"]):
                text = " ".join([letters, states, few, turn, good, figures])
                tracemalloc.reset_peak()
                before = tracemalloc.get_traced_memory()[0]
                try:
                    told = read_judge(text)
                except NoText:
                    told = None
                # Few judges have so short a writing: those of one letter and one class.
                due = [letters, few, turn, figures] == ["b", "0", "1", "0"] and (states, good) in short
                self.assertEqual(told is not None, due, text)
                self.assertLess(tracemalloc.get_traced_memory()[1] - before, 500000, text)

    def test_great_numbers_and_empty_words(self):
        for text in [
            " 6 4 4 - ", " 9 9 9 - ", " 9 0 9 - ", " 9 9 9 0 ", " 8 9 9 0,1 ", " 9 9 0 - ", " 9 9 9  ", " 9 9 9 - 0", " 6 4 4 0 0", "a 9 9 9 - ",
            "ab 6 4 4 0 ", "A 9 9 9 - ", "  9 9 9 - ", " 9 9 9 -  ", " 9 9 - ", " 9 9 9 -",
        ]:
            with self.subTest(text):
                with self.assertRaises(NoText):
                    read_judge(text)

    def test_each_sign_changed_left_out_or_put_in(self):
        for judge in [NO_B, EVEN, changed(NO_B, 5, []), changed(NO_B, 5, [0, 1]), judge_by("ac", 3, 0, 1, lambda letter, row: 2, [0, 2])]:
            text = shown(judge)
            for place in range(len(text) + 1):
                others = [text[:place] + sign + text[place + 1:] for sign in "a bcz019-,+\n"]
                others += [text[:place] + sign + text[place:] for sign in "a bcz019-,+\n"]
                others.append(text[:place] + text[place + 1:])
                for other in others:
                    try:
                        told = read_judge(other)
                    except NoText:
                        continue
                    self.assertIs(is_judge(told), True)
                    self.assertEqual(shown(told), other)

    def test_judges_one_step_beside_a_judge(self):
        for text in ["ab 2 1 1 1 01011111", "ac 2 1 1 0 01011111", "ab 2 0 2 0 01011111", "ab 2 1 1 0 01011110", "ab 2 1 1 - 01011111"]:
            self.assertEqual(shown(read_judge(text)), text)

    def test_other_kinds(self):
        for thing in [*NO_TEXTS, shown(NO_B).split(" "), tuple(shown(NO_B).split(" ")), shown(NO_B).encode(), [shown(NO_B)]]:
            with self.subTest(thing):
                with self.assertRaises(NoText):
                    read_judge(thing)
        for text in ["a", "", "ab", "a(b)"]:
            with self.assertRaises(NoText):
                read_judge(text)

    def test_three_thousand_signs(self):
        for text in [
            "a" * 3000, "0" * 3000, " " * 3000, "a 1 0 1 0 " + "0" * 2990, "a 1 0 1 " + "0," * 1495 + "0 0", "a " * 1500,
            "a 1 0 1 0" + " " * 2990,
        ]:
            with self.assertRaises(NoText):
                read_judge(text)


class OwnThings(unittest.TestCase):
    """[2]: nothing handed in is changed or kept, and what is told is the asker's own."""

    def test_what_is_handed_in_stays(self):
        before = copy.deepcopy(JUDGES)
        for judge in JUDGES:
            order = list(judge[4])
            show_judge(judge)
            self.assertEqual(list(judge[4]), order)
        self.assertEqual(JUDGES, before)

    def test_what_is_told_is_new(self):
        asked = [(read_tree, "a(b(cc)b(cc)d)"), (read_tree, "a"), (read_judge, shown(NO_B)), (read_judge, shown(GREATEST))]
        for function, text in asked:
            check_told_anew(self, lambda: function(text), JUDGES)

    def test_told_things_are_of_the_kinds_told(self):
        self.assertIs(type(show_judge(NO_B)), str)
        self.assertEqual([type(thing) for thing in read_judge(shown(NO_B))], [str, int, int, int, dict, list])
        tree = read_tree("a(b)")
        self.assertEqual([type(tree), type(tree[0]), type(tree[1]), type(tree[1][0])], [tuple, str, list, tuple])


if __name__ == "__main__":
    unittest.main()
