"""Desks, which answer rows of words about a book."""

from prooffruit.book import Book
from prooffruit.errors import NoRow
from prooffruit.runs import run
from prooffruit.terms import is_word
from prooffruit.texts import FIGURES, MOST_FIGURES, read, written
from prooffruit.yields import yielded


def is_number(word):
    """Whether a word writes a number below 10 ** 60."""
    if not 1 <= len(word) <= MOST_FIGURES or (word[0] == "0" and word != "0"):
        return False
    return all([sign in FIGURES for sign in word])


def worth_text(told):
    """The text of a worth."""
    if told is None:
        return "none"
    if not isinstance(told, tuple):
        return f"{told}"
    left = told[0] if told[0] in ("this", "that") else worth_text(told[0])
    right = worth_text(told[1])
    return f"({left} {right})"


def answer_keep(book, words):
    return written(book.keep(words[1], read(" ".join(words[2:]))))


def answer_mend(book, words):
    book.mend(words[1], read(" ".join(words[2:])))
    return "ok"


def answer_drop(book, words):
    book.drop(words[1])
    return "ok"


def answer_back(book, _):
    book.back()
    return "ok"


def answer_names(book, _):
    return " ".join(book.listed()) if len(book) > 0 else "none"


def answer_says(book, words):
    return written(book.says(words[1]))


def answer_yields(book, words):
    return written(yielded(book.opened(words[1])))


def answer_runs(book, words):
    program = yielded(book.opened(words[1]))
    for word in words[2:]:
        program = ("call", program, ("num", int(word)))
    return worth_text(run(program, {}))


# What a row is answered by, by its first word.
ANSWERS = {
    "keep": answer_keep,
    "mend": answer_mend,
    "drop": answer_drop,
    "back": answer_back,
    "names": answer_names,
    "says": answer_says,
    "yields": answer_yields,
    "runs": answer_runs,
}

# What stands behind the first word: a name or nothing, and what stands behind that.
BEHIND = {
    "keep": ("name", "text"),
    "mend": ("name", "text"),
    "drop": ("name", "nothing"),
    "back": ("nothing", "nothing"),
    "names": ("nothing", "nothing"),
    "says": ("name", "nothing"),
    "yields": ("name", "nothing"),
    "runs": ("name", "numbers"),
}


def is_row(words):
    """Whether words are those of a row that is answered."""
    if words[0] not in BEHIND:
        return False
    first, rest = BEHIND[words[0]]
    behind = words[1:]
    if first == "name":
        if len(behind) == 0 or not is_word(behind[0]):
            return False
        behind = behind[1:]
    if rest == "text":
        return len(behind) > 0
    if rest == "numbers":
        return all([is_number(word) for word in behind])
    return len(behind) == 0


class Desk:
    """A desk, with its book."""

    def __init__(self):
        self.book = Book()

    def say(self, row):
        """The answer to a row; NoRow, NoText, and as the book, a yield and its run refuse."""
        words = row.split(" ")
        if not is_row(words):
            raise NoRow(row)
        answer = ANSWERS[words[0]]
        return answer(self.book, words)
