"""[2], [3], [26], [27]: the desk."""

import unittest

from helpers import OTHER_KINDS, chance_judge, holders_within, judge_by, leaf, nested, told_trees, written
from heaptrees.coming import states_that_come
from heaptrees.countedtrees import count_let_by
from heaptrees.desk import Desk
from heaptrees.errors import HeapError, NoFit, NoLetter, NoName, NoNumber, NoRow, NoText, TooMany
from heaptrees.joining import judges_joined, turned_judge
from heaptrees.judges import lets_by, state_of
from heaptrees.leastjudge import least_judge
from heaptrees.texts import read_judge, read_tree, show_judge
from heaptrees.within import within_told

# Let by are trees of even size; trees without a b; of state 2, which a b has that is no leaf.
EVEN = judge_by("ab", 2, 0, 2, lambda letter, row: (1 + row[1]) % 2, [0])
NO_B = judge_by("ab", 2, 1, 1, lambda letter, row: int(letter == "b" or row[1] > 0), [0])
TOPS = judge_by("ab", 3, 1, 1, lambda letter, row: 0 if letter == "a" else 2 if sum(row) else 1, [2])
OTHER = judge_by("abc", 2, 1, 1, lambda letter, row: int(letter == "b"), [1])
SIX = chance_judge(1, "ab", 6, 1, 1)

FILLED = {"even": EVEN, "nob": NO_B, "tops": TOPS, "other": OTHER, "six": SIX}

NO_NAMES = ["", "A", "nameisof9", "a1", "1", "a-", "a_b", "aB", "\u00e4", "a\n", "\ta", "abcdefghi", "a.b", "~", "-"]


def filled():
    desk = Desk()
    for name, judge in FILLED.items():
        assert desk.say(f"judge {name} {show_judge(judge)}") == "ok"
    return desk


def standing(desk):
    """From each name that stands to the shown writing."""
    return {name: desk.say(f"show {name}") for name in desk.names()}


class Asked(unittest.TestCase):
    def refused(self, error, desk, row):
        """Whether the row is refused with the error, and changes nothing."""
        before = standing(desk)
        with self.subTest(row):
            with self.assertRaises(error) as caught:
                desk.say(row)
            self.assertIs(type(caught.exception), error)
            self.assertIsInstance(caught.exception, HeapError)
            self.assertEqual(standing(desk), before)


class Rows(Asked):
    def test_judge_and_show(self):
        desk = Desk()
        self.assertEqual(desk.names(), [])
        self.assertEqual(desk.say("judge even ab 2 0 2 0 10101010"), "ok")
        self.assertEqual(desk.say("show even"), "ab 2 0 2 0 10101010")
        self.assertEqual(desk.say("judge even z 1 0 1 - 0"), "ok")
        self.assertEqual(desk.say("show even"), "z 1 0 1 - 0")
        self.assertEqual(desk.names(), ["even"])

    def test_each_row_by_hand(self):
        desk = filled()
        for row, told in [
            ("turn odd even", "ok"), ("show odd", "ab 2 0 2 1 10101010"), ("least best tops", "ok"), ("show best", "ab 2 1 1 1 00000111"),
            ("state even a", "1"), ("state even a(b)", "0"), ("state tops b(a)", "2"), ("good even a", "no"), ("good even a(b)", "yes"),
            ("come even", "0 1"), ("come tops", "0 1 2"), ("count even 1", "0"), ("count even 2", "4"), ("count even 4", "52"),
            ("count nob 5", "9"), ("count nob 24", "743724984"), ("within even even", "yes"), ("within even odd", "a(a)"),
            ("within nob even", "a"), ("within tops tops", "yes"), ("both x nob even", "ok"), ("within x nob", "yes"),
            ("within x even", "yes"), ("within nob x", "a"), ("good x a(a)", "yes"), ("good x a(b)", "no"), ("either y nob even", "ok"),
            ("good y a(b)", "yes"), ("good y b", "no"), ("drop x", "ok"), ("turn even even", "ok"), ("good even a", "yes"),
            ("count other 1", "1"), ("state other c(abc)", "0"), ("state other b(c)", "1"),
        ]:
            with self.subTest(row):
                answer = desk.say(row)
                self.assertIs(type(answer), str)
                self.assertIn(answer, ["a(a)", "a(b)", "b(a)", "b(b)"] if row == "within even odd" else [told])
        self.assertEqual(desk.names(), ["best", "even", "nob", "odd", "other", "six", "tops", "y"])

    def test_what_comes_into_the_first(self):
        for word, made in [
            ("turn {} even", turned_judge(EVEN)), ("turn {} tops", turned_judge(TOPS)), ("least {} six", least_judge(SIX)),
            ("least {} other", least_judge(OTHER)), ("both {} even nob", judges_joined("both", EVEN, NO_B)),
            ("either {} nob even", judges_joined("either", NO_B, EVEN)), ("both {} nob nob", judges_joined("both", NO_B, NO_B)),
            (f"judge {{}} {show_judge(TOPS)}", TOPS),
        ]:
            # A new name, one that stands, and each of the row's own.
            for name in ["fresh", *FILLED]:
                desk = filled()
                self.assertEqual(desk.say(word.format(name)), "ok")
                due = {other: show_judge(judge) for other, judge in FILLED.items()}
                self.assertEqual(standing(desk), {**due, name: show_judge(made)})

    def test_asked_as_the_stages_tell(self):
        desk = filled()
        trees = [tree for size in range(1, 5) for tree in told_trees(size, "ab")]
        for name, judge in FILLED.items():
            self.assertEqual(desk.say(f"come {name}"), " ".join(map(str, states_that_come(judge))))
            self.assertEqual(desk.say(f"show {name}"), show_judge(judge))
            self.assertEqual(read_judge(desk.say(f"show {name}")), judge)
            for size in range(1, 25):
                self.assertEqual(desk.say(f"count {name} {size}"), str(count_let_by(judge, size)))
            for tree in trees:
                self.assertEqual(desk.say(f"state {name} {written(tree)}"), str(state_of(judge, tree)))
                self.assertEqual(desk.say(f"good {name} {written(tree)}"), "yes" if lets_by(judge, tree) else "no")
            for other, second in FILLED.items():
                if second[0] == judge[0]:
                    word, told = within_told(judge, second)
                    answer = desk.say(f"within {name} {other}")
                    self.assertEqual(answer == "yes", word == "within")
                    if word == "not":
                        self.assertIs(lets_by(judge, read_tree(answer)), True)
                        self.assertIs(lets_by(second, read_tree(answer)), False)
                        self.assertEqual(len(answer.replace("(", "").replace(")", "")), len(written(told).replace("(", "").replace(")", "")))

    def test_names_that_are_words_of_the_desk(self):
        desk = Desk()
        words = ["judge", "turn", "both", "either", "least", "drop", "state", "good", "come", "within", "count", "show", "ok", "yes", "no"]
        for word in words:
            self.assertEqual(desk.say(f"judge {word} ab 2 0 2 0 10101010"), "ok")
        self.assertEqual(desk.names(), sorted(words))
        for row, told in [
            ("turn turn turn", "ok"), ("both both both both", "ok"), ("either either either turn", "ok"), ("least least least", "ok"),
            ("state state a", "1"), ("good good a", "no"), ("come come", "0 1"), ("within within within", "yes"), ("count count 2", "4"),
            ("show show", "ab 2 0 2 0 10101010"), ("judge judge z 1 0 1 - 0", "ok"), ("drop drop", "ok"), ("show judge", "z 1 0 1 - 0"),
        ]:
            self.assertEqual(desk.say(row), told)
        self.assertEqual(desk.names(), sorted(word for word in words if word != "drop"))

    def test_names_in_the_order_of_letters(self):
        desk = Desk()
        names = ["b", "ab", "abcdefgh", "z", "a", "aaaaaaaa", "ba", "y", "abc"]
        for name in names:
            desk.say(f"judge {name} z 1 0 1 - 0")
        self.assertEqual(desk.names(), ["a", "aaaaaaaa", "ab", "abc", "abcdefgh", "b", "ba", "y", "z"])
        desk.say("drop ab")
        desk.say("drop z")
        self.assertEqual(desk.names(), ["a", "aaaaaaaa", "abc", "abcdefgh", "b", "ba", "y"])

    def test_what_is_dropped_stands_no_more(self):
        desk = filled()
        self.assertEqual(desk.say("turn odd even"), "ok")
        self.assertEqual(desk.say("drop even"), "ok")
        self.refused(NoName, desk, "show even")
        self.refused(NoName, desk, "drop even")
        self.assertEqual(desk.say("good odd a"), "yes")
        self.assertEqual(desk.say("turn even odd"), "ok")
        self.assertEqual(desk.say("show even"), show_judge(EVEN))

    def test_a_tree_of_many_parts_and_of_great_depth(self):
        desk = filled()
        self.assertEqual(desk.say(f"state even a({'b' * 2900})"), "1")
        self.assertEqual(desk.say(f"good even {'a(' * 899}a{')' * 899}"), "yes")

    def test_two_desks(self):
        one, other = filled(), filled()
        one.say("drop even")
        one.say("turn nob nob")
        self.assertEqual(standing(other), {name: show_judge(judge) for name, judge in FILLED.items()})

    def test_asking_changes_nothing(self):
        desk = filled()
        before = standing(desk)
        for row in ["state even a", "good even a", "come even", "within even nob", "count even 9", "show even"]:
            self.assertEqual([desk.say(row), desk.say(row)], [filled().say(row)] * 2)
        self.assertEqual(standing(desk), before)


class NoRows(Asked):
    def test_what_is_no_text(self):
        desk = filled()
        others = [thing for thing in OTHER_KINDS if not isinstance(thing, str)]
        for thing in [*others, ["show even"], ("show", "even"), b"show even", {"show": "even"}]:
            self.refused(NoRow, desk, thing)

    def test_what_is_no_row(self):
        desk = filled()
        for row in [
            "", " ", "even", "ok", "show", "SHOW even", "Show even", " show even", "show even ", "show  even", "show even even", "show\teven",
            "show\neven", "show even\n", "shows even", "turn", "turn even", "turn even nob tops", "turn even  nob", "turn  even nob",
            "turn even nob ", "both even nob", "both even nob tops six", "both", "either even nob", "either even nob tops six", "least even",
            "least even nob tops", "least", "drop", "drop even nob", "drop ", "state even", "state even ", "state even a b", "state even  a",
            "state  even a", "state", "state even a ", "good even", "good even a b", "good", "good even ", "come", "come even nob", "come even ",
            "within even", "within even nob tops", "within", "within even  nob", "count even", "count", "count even 1 2", "count even ",
            "judge", "judge ", "judge even", "judges even a", "judge  a 1 0 1 - 0", "judge  ", "judge\teven z 1 0 1 - 0",
            "judge even\tz 1 0 1 - 0", "named even", "put even a", "names", "help",
        ]:
            self.refused(NoRow, desk, row)

    def test_names(self):
        desk = filled()
        text = show_judge(EVEN)
        for name in NO_NAMES:
            for row in [
                f"judge {name} {text}", f"turn {name} even", f"turn even {name}", f"both {name} even nob", f"both even {name} nob",
                f"both even nob {name}", f"either {name} even nob", f"either even {name} nob", f"either even nob {name}", f"least {name} even",
                f"least even {name}", f"drop {name}", f"state {name} a", f"good {name} a", f"come {name}", f"within {name} even",
                f"within even {name}", f"count {name} 1", f"show {name}", f"judge {name} none", f"judge {name} ",
            ]:
                self.refused(NoRow, desk, row)
        self.assertEqual(desk.say(f"judge abcdefgh {text}"), "ok")
        self.assertEqual(desk.say(f"judge z {text}"), "ok")

    def test_sizes(self):
        desk = filled()
        for size in [
            "0", "00", "01", "09", "100", "024", "-1", "+1", "1.", "1,", "a", "1a", "a1", "1_0",
            "\u0661", "\uff11", "1\n", "\n1", "1\t", "x", "-", "2\u0662",
        ]:
            self.refused(NoRow, desk, f"count even {size}")
        for size in range(25, 100):
            self.refused(NoNumber, desk, f"count even {size}")
        self.assertEqual([desk.say(f"count nob {size}") for size in (1, 9, 10, 24)], ["1", "286", "719", "743724984"])

    def test_things_far_within(self):
        desk = filled()
        for thing in [nested([], 99, lambda x: [x]), nested("show even", 99, lambda x: (x,)), leaf("a"), EVEN]:
            self.refused(NoRow, desk, thing)


class Refused(Asked):
    def test_no_name(self):
        desk = filled()
        for row in [
            "turn even none", "turn none none", "both x none nob", "both x nob none", "both none none none", "either even none nob",
            "either even nob none", "least even none", "drop none", "state none a", "good none a", "come none", "within none even",
            "within even none", "count none 1", "show none", "show eve", "show evens",
        ]:
            self.refused(NoName, desk, row)
        self.refused(NoName, Desk(), "show even")

    def test_no_text(self):
        desk = filled()
        text = show_judge(NO_B)
        for row in [
            "judge even ", "judge fresh ", "judge even  ", f"judge even  {text}", f"judge even {text} ", f"judge even {text}\n", "judge even none",
            f"judge even {text}0", f"judge even {text[:-1]}", "judge even judge even", "judge even a(b)",
            "judge even even", "judge even \n", "judge even \u00e4",
            # No letters and no figures, but great numbers: a name that stands stays, a fresh one does not come to stand.
            "judge even  6 4 4 - ", "judge fresh  6 4 4 - ", "judge even  9 9 9 - ", "judge fresh  9 9 9 0 ", "judge fresh  8 9 9 0,1 ",
        ]:
            self.refused(NoText, desk, row)
        for word in ("state", "good"):
            for tree in ["A", "ab", "a()", "a(ba)", "a(b", "()", "1", "-", "a(b))", "\n", "a\n", "\u00e4", "(", "a,b", "a\tb"]:
                self.refused(NoText, desk, f"{word} even {tree}")

    def test_as_the_stages_refuse(self):
        desk = filled()
        for word in ("state", "good"):
            self.refused(NoLetter, desk, f"{word} even c")
            self.refused(NoLetter, desk, f"{word} even a(bc)")
        for row in ["both even nob other", "either even other nob", "both x other even", "within even other", "within other nob"]:
            self.refused(NoFit, desk, row)
        # Eighteen states; and letters that are unlike besides, which goes first.
        for row in ["both even tops six", "either x six tops", "both six even six"]:
            self.refused(TooMany, desk, row)
        self.refused(NoFit, desk, "both x six other")
        self.refused(NoNumber, desk, "count even 25")

    def test_which_goes_first(self):
        desk = filled()
        for error, row in [
            # No row ahead of all; then names, then texts, then the stages.
            (NoRow, "state none a b"), (NoRow, "state None A"), (NoRow, "count none 0"), (NoRow, "turn Even none"), (NoRow, "judge Even none"),
            (NoRow, "both none Even even"), (NoName, "state none A"), (NoName, "good none a()"), (NoName, "state none c"), (NoName, "count none 25"),
            (NoName, "within none other"), (NoName, "both x none other"), (NoName, "both x six none"),
            (NoText, "state even c("), (NoText, "good even ca"), (NoLetter, "state even c"), (NoNumber, "count even 99"),
        ]:
            self.refused(error, desk, row)


class OwnThings(Asked):
    """[2]: what is told is the asker's own."""

    def test_the_names_told_are_new(self):
        desk = filled()
        told = [desk.names(), desk.names()]
        self.assertIs(type(told[0]), list)
        self.assertIsNot(told[0], told[1])
        told[0].clear()
        self.assertEqual(desk.names(), sorted(FILLED))
        self.assertEqual(told[1], sorted(FILLED))

    def test_rows_are_answered_by_texts(self):
        desk = filled()
        for row in ["state even a", "count even 3", "come even", "drop even"]:
            self.assertEqual(holders_within(desk.say(row)), [])


if __name__ == "__main__":
    unittest.main()
