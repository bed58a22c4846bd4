"""The desk: judges by names, made and asked by rows of words."""

from heaptrees.coming import states_that_come
from heaptrees.countedtrees import count_let_by
from heaptrees.errors import NoName, NoRow
from heaptrees.joining import judges_joined, turned_judge
from heaptrees.judges import lets_by, state_of
from heaptrees.kinds import is_letter
from heaptrees.leastjudge import least_judge
from heaptrees.texts import read_judge, read_tree, show_judge
from heaptrees.trees import written_tree
from heaptrees.within import within_told

MOST_NAME = 8

# From the first word of each row to what the words behind it are: a new name for what is made, a
# name by which a judge must stand, a judge's text, a tree's, a size.
FORMS = {
    "judge": ("new", "text"),
    "turn": ("new", "name"),
    "both": ("new", "name", "name"),
    "either": ("new", "name", "name"),
    "least": ("new", "name"),
    "drop": ("name",),
    "state": ("name", "tree"),
    "good": ("name", "tree"),
    "come": ("name",),
    "within": ("name", "name"),
    "count": ("name", "size"),
    "show": ("name",),
}


class Desk:
    """Judges by names, to be made and asked by rows."""

    def __init__(self):
        self._judges = {}

    def say(self, row):
        """Do what the row says, and tell what it asks; or a refusal, which changes nothing."""
        words = _words_of(row)
        kinds = FORMS[words[0]]
        for kind, word in zip(kinds, words[1:]):
            if kind == "name" and word not in self._judges:
                raise NoName("no judge stands by the name")
        things = [self._thing(kind, word) for kind, word in zip(kinds, words[1:])]
        if kinds[0] == "new":
            self._judges[words[1]] = _made(words[0], things[1:])
            return "ok"
        if words[0] == "drop":
            del self._judges[words[1]]
            return "ok"
        return _told(words[0], things)

    def names(self):
        """The names by which judges stand, in the order of letters."""
        return sorted(self._judges)

    def _thing(self, kind, word):
        """What the word stands for; or NoText."""
        if kind == "name":
            return self._judges[word]
        if kind == "text":
            return read_judge(word)
        if kind == "tree":
            return read_tree(word)
        return int(word) if kind == "size" else word


def _words_of(row):
    """The words of the row; or NoRow."""
    if not isinstance(row, str):
        raise NoRow("a row is a text")
    # A judge's writing has blanks, and may be any text: it is all that is left.
    words = row.split(" ", 2) if row.startswith("judge ") else row.split(" ")
    kinds = FORMS.get(words[0], ())
    if not kinds or len(words) != len(kinds) + 1:
        raise NoRow("there is no row of such words")
    if not all([_fits(kind, word) for kind, word in zip(kinds, words[1:])]):
        raise NoRow("a word of the row is none that stands there")
    return words


def _fits(kind, word):
    """Whether the word may stand where such a one is due."""
    if kind == "size":
        return _is_size(word)
    if kind == "tree":
        return word != ""
    return kind == "text" or _is_name(word)


def _is_name(word):
    """Whether the word is a name: one to eight small letters."""
    return 1 <= len(word) <= MOST_NAME and all([is_letter(sign) for sign in word])


def _is_size(word):
    """Whether the word is one or two figures, the first no 0."""
    return 1 <= len(word) <= 2 and word[0] != "0" and all(["0" <= sign <= "9" for sign in word])


def _made(word, things):
    """The judge that comes of the things, by the row's first word."""
    if word == "judge":
        return things[0]
    if word == "turn":
        return turned_judge(things[0])
    if word == "least":
        return least_judge(things[0])
    return judges_joined(word, things[0], things[1])


def _told(word, things):
    """What is told of the things, by the row's first word."""
    judge = things[0]
    if word == "state":
        return str(state_of(judge, things[1]))
    if word == "good":
        return "yes" if lets_by(judge, things[1]) else "no"
    if word == "come":
        return " ".join([str(state) for state in states_that_come(judge)])
    if word == "within":
        verdict, told = within_told(judge, things[1])
        return "yes" if verdict == "within" else written_tree(told)
    if word == "count":
        return str(count_let_by(judge, things[1]))
    return show_judge(judge)
