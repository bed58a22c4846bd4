"""Judges turned and joined."""

from math import lcm

from heaptrees.errors import NoFit, TooMany
from heaptrees.judges import MOST_STATES, state_by_numbers, table_made


def turned_judge(judge):
    """The judge that lets by just the trees of its letters that this one does not."""
    letters, states, few, turn, table, good = judge
    others = [state for state in range(states) if state not in good]
    return (letters, states, few, turn, {key: state for key, state in table.items()}, others)


def judges_joined(word, one, other):
    """The judge of the trees that both let by, or by the word "either" at least one of them.

    Its states are all pairs of the two's; or NoFit, TooMany.
    """
    letters = one[0]
    if letters != other[0]:
        raise NoFit("the two judges have unlike letters")
    states = one[1] * other[1]
    if states > MOST_STATES:
        raise TooMany("the joined judge would have more than six states")
    few = max(one[2], other[2])
    turn = lcm(one[3], other[3])
    table = table_made(
        letters, states, few, turn, lambda letter, row: _pair_at(one, other, letter, row)
    )
    return (letters, states, few, turn, table, _good_pairs(word, one, other))


def _pair_at(one, other, letter, row):
    """The pair of states, as one number, of a part whose children's pairs have these classes.

    The joined judge tells no two numbers alike that one of the two tells apart, so its classes
    may be summed as numbers.
    """
    width = other[1]
    ones = [sum(row[first * width:(first + 1) * width]) for first in range(one[1])]
    others = [sum(row[second::width]) for second in range(width)]
    return state_by_numbers(one, letter, ones) * width + state_by_numbers(other, letter, others)


def _good_pairs(word, one, other):
    """The pairs, as numbers, that are good by the word, rising."""
    rows = [
        (first * other[1] + second, first in one[5], second in other[5])
        for first in range(one[1])
        for second in range(other[1])
    ]
    if word == "both":
        return [pair for pair, by_one, by_other in rows if by_one and by_other]
    return [pair for pair, by_one, by_other in rows if by_one or by_other]
