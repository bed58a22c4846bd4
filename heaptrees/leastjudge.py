"""Judges made least, and trees put into surroundings."""

from heaptrees.apart import alike_paper
from heaptrees.coming import least_trees
from heaptrees.errors import NoFit
from heaptrees.judges import state_of, table_made
from heaptrees.trees import check_surrounding, copied_tree


def put_into(surrounding, tree):
    """The tree that comes where the tree is put into the surrounding."""
    check_surrounding(surrounding)
    told = tree
    for letter, children in surrounding:
        told = (letter, [*children, told])
    return copied_tree(told)


def least_judge(judge):
    """The judge that lets by the same trees, with the fewest states."""
    letters, states, few, turn, table, good = judge
    groups = alike_paper(judge)
    group_at = {state: place for place, group in enumerate(groups) for state in group}

    def state_at(letter, row):
        """The group of a part with as many children of each group's first state as the classes.

        Another state of the group in its stead would lead to the same group.
        """
        numbers = [0] * states
        for place, group in enumerate(groups):
            numbers[group[0]] = row[place]
        return group_at[table[(letter, tuple(numbers))]]

    least = table_made(letters, len(groups), few, turn, state_at)
    return (letters, len(groups), few, turn, least, [
        place for place, group in enumerate(groups) if group[0] in good
    ])


def renamed(one, other):
    """The list, at the place of each state of the one's least judge, of what it is in the other's.

    None where the least judges are not the same but for the states' numbers; or NoFit.
    """
    if one[0] != other[0] or one[2] != other[2] or one[3] != other[3]:
        raise NoFit("the two judges have unlike letters, few or turn")
    first = least_judge(one)
    second = least_judge(other)
    trees = least_trees(first)
    # Each state of a least judge comes; what it is in the second, a tree that has it tells.
    names = [state_of(second, trees[state]) for state in range(first[1])]
    return names if _are_names(first, second, names) else None


def _are_names(first, second, names):
    """Whether the second judge is the first with each state called as in the list."""
    if sorted(names) != list(range(second[1])):
        return False
    if sorted([names[state] for state in first[5]]) != second[5]:
        return False
    return all([
        names[first[4][(letter, tuple([row[name] for name in names]))]] == state
        for (letter, row), state in second[4].items()
    ])
