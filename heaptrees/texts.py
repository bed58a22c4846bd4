"""Texts: judges written, and trees and judges read back from their writings."""

from heaptrees.errors import NoText
from heaptrees.judges import is_judge, keys_due, may_have_table
from heaptrees.kinds import is_letter
from heaptrees.trees import written_tree

FIGURES = "0123456789"


def read_tree(text):
    """The tree, in told form, that the text writes."""
    tree = _tree_read(text) if isinstance(text, str) else None
    # A tree is read from some texts that write none, too, but is written as its writing alone.
    if tree is None or written_tree(tree) != text:
        raise NoText("what is handed in writes no tree")
    return tree


def _tree_read(text):
    """The first tree of the text's letters, put together by its parentheses; or None."""
    levels = [[]]
    for sign in text:
        if is_letter(sign):
            levels[-1].append((sign, []))
        elif sign == "(" and levels[-1]:
            levels.append(levels[-1][-1][1])
        elif sign == ")" and len(levels) > 1:
            levels.pop()
        else:
            return None
    return levels[0][0] if levels[0] else None


def show_judge(judge):
    """The writing of the judge."""
    letters, states, few, turn, table, good = judge
    good_text = ",".join([str(state) for state in good]) or "-"
    figures = "".join([str(table[key]) for key in keys_due(letters, states, few + turn)])
    return f"{letters} {states} {few} {turn} {good_text} {figures}"


def read_judge(text):
    """The judge that the text writes."""
    words = text.split(" ") if isinstance(text, str) else []
    judge = _judge_read(words) if len(words) == 6 else None
    if not is_judge(judge):
        raise NoText("what is handed in writes no judge")
    return judge


def _judge_read(words):
    """What stands in the words of a judge's writing: a judge, if they are such; or None."""
    letters = words[0]
    states, few, turn = [_figure(word) for word in words[1:4]]
    # The tuples of numbers that no judge has may be so many that they end the program.
    if not may_have_table(letters, states, few, turn):
        return None
    keys = keys_due(letters, states, few + turn)
    if len(keys) != len(words[5]):
        return None
    good = [] if words[4] == "-" else [_figure(word) for word in words[4].split(",")]
    table = dict(zip(keys, [_figure(sign) for sign in words[5]]))
    return (letters, states, few, turn, table, good)


def _figure(word):
    """The number that the word writes as one figure, or -1."""
    return FIGURES.find(word) if len(word) == 1 else -1
