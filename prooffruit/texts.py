"""Texts of trees: written, and read sign by sign."""

from prooffruit.errors import NoText
from prooffruit.terms import LETTERS, MOST_LETTERS

FIGURES = "0123456789"
MOST_FIGURES = 60
MOST_OPEN = 300


def written(tree):
    """The text of a tree."""
    signs = []
    todo = [tree]
    while todo:
        part = todo.pop()
        if isinstance(part, tuple):
            signs.append(f" ({part[0]}")
            todo.append(")")
            for inner in reversed(part[1:]):
                todo.append(inner)
        else:
            signs.append(part if part == ")" else f" {part}")
    # Each part has a blank ahead of it, the whole one, too.
    return "".join(signs)[1:]


def goes_on(begun, sign):
    """Whether a sign can go on with a word or a number that is begun."""
    if begun[0] in FIGURES:
        return sign in FIGURES and begun != "0" and len(begun) < MOST_FIGURES
    return sign in LETTERS and len(begun) < MOST_LETTERS


class Reader:
    """What is read so far: the trees that are open, the innermost last, what is begun, and the whole at the end.

    last tells what stands last: "start", "open" (a bracket), "blank", "begun" (a word or number), "closed" (a tree).
    """

    def __init__(self):
        self.trees = []
        self.begun = ""
        self.last = "start"
        self.whole = None

    def can_open(self):
        """Whether a bracket that opens a tree can stand here."""
        return self.last == "start" or (self.last == "blank" and len(self.trees) < MOST_OPEN)

    def can_begin(self, sign):
        """Whether a sign can stand here that begins a word, or a number."""
        if self.last == "open":
            return sign in LETTERS
        return self.last == "blank" and (sign in LETTERS or sign in FIGURES)

    def can_part(self):
        """Whether a blank, or a bracket that closes a tree, can stand here."""
        return self.last == "begun" or (self.last == "closed" and len(self.trees) > 0)

    def end_begun(self):
        """Put the word or number that is begun, if any, into the innermost tree."""
        if self.last == "begun":
            self.trees[-1].append(int(self.begun) if self.begun[0] in FIGURES else self.begun)

    def close(self):
        """Close the innermost tree."""
        self.end_begun()
        tree = tuple(self.trees.pop())
        if len(self.trees) > 0:
            self.trees[-1].append(tree)
        else:
            self.whole = tree
        self.last = "closed"

    def take(self, sign):
        """Read one more sign, and tell whether it can stand here."""
        if sign == "(" and self.can_open():
            self.trees.append([])
            self.last = "open"
        elif sign == ")" and self.can_part():
            self.close()
        elif sign == " " and self.can_part():
            self.end_begun()
            self.last = "blank"
        elif self.last == "begun" and goes_on(self.begun, sign):
            self.begun += sign
        elif self.can_begin(sign):
            self.begun = sign
            self.last = "begun"
        else:
            return False
        return True


def read(text):
    """The tree of a text; NoText."""
    reader = Reader()
    for at, sign in enumerate(text):
        if not reader.take(sign):
            raise NoText(at)
    if reader.whole is None:
        raise NoText(len(text))
    return reader.whole
