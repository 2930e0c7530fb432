"""What is put into grounds: terms for names, grounds for labels; which names are open, and which grounds are alike."""

from prooffruit.errors import NoGround
from prooffruit.exchange import WORDED, open_names_of, with_ground, with_term
from prooffruit.grounds import closed_words, grounds_of, parts_of
from prooffruit.judge import grounded
from prooffruit.pieces import LEAVES, pieces_of


def open_names(ground):
    """A rising list of the names that stand somewhere in a ground where no for, open or climb closes them."""
    return sorted(open_names_of(ground))


def is_like_leaf(piece, other, closed, closed_other):
    """Whether a num, name or bound is like another one of its word; dicts tell which closing closes a name in each."""
    if piece[0] != "name":
        return piece == other
    return closed.get(piece[1], piece[1]) == closed_other.get(other[1], other[1])


def is_like_part(part, other, closed, closed_other):
    """Whether a term, a saying or a body is like another one."""
    pieces = pieces_of(part)
    others = pieces_of(other)
    if len(pieces) != len(others):
        return False
    # Each word has always as many parts: so pieces of like words, in this order, are put together alike.
    for (piece, _), (mate, _) in zip(pieces, others):
        if piece[0] != mate[0]:
            return False
        if piece[0] in LEAVES and not is_like_leaf(piece, mate, closed, closed_other):
            return False
    return True


class Closings:
    """Which closing, by its number, closes a name or label at a place of a ground, and at its place in another one."""

    def __init__(self, names, other_names, labels, other_labels):
        self.names = names
        self.other_names = other_names
        self.labels = labels
        self.other_labels = other_labels

    def inside(self, words, other_words, at):
        """The closings beneath two more ones, of a (name, label) each, None for what isn't closed."""
        name, label = words
        other_name, other_label = other_words
        if name is None and label is None:
            return self
        return Closings({**self.names, name: at}, {**self.other_names, other_name: at},
                        {**self.labels, label: at}, {**self.other_labels, other_label: at})


def is_like_piece(piece, other, closings):
    """Whether a piece is like another one, but for their grounds and for the words that they close."""
    if piece[0] != other[0]:
        return False
    if piece[0] == "sums" and piece[1] != other[1]:
        return False
    if piece[0] == "given":
        label = closings.labels.get(piece[1], piece[1])
        if label != closings.other_labels.get(other[1], other[1]):
            return False
    for part, mate, what in zip(piece[1:], other[1:], parts_of(piece)):
        if what in WORDED and not is_like_part(part, mate, closings.names, closings.other_names):
            return False
    return True


def alike(one, other):
    """Whether two right grounds are one but for closed names and closed labels."""
    closed = 0
    todo = [(one, other, Closings({}, {}, {}, {}))]
    while todo:
        piece, mate, closings = todo.pop()
        if not is_like_piece(piece, mate, closings):
            return False
        inner = list(zip(grounds_of(piece), grounds_of(mate)))
        for (part, other_part), words, other_words in zip(inner, closed_words(piece), closed_words(mate)):
            closed += 1
            todo.append((part, other_part, closings.inside(words, other_words, closed)))
    return True


def named(ground, name, term):
    """A right ground with a term put for a name, wherever that isn't closed; NoGround."""
    grounded(ground)
    return with_term(ground, name, term) if name in open_names_of(ground) else ground


def supplied(ground, label, other):
    """A right ground with another one put into it for a label, wherever that is open; NoGround."""
    _, givens = grounded(ground)
    saying, other_givens = grounded(other)
    needed = {word: needs for word, needs in givens}
    if label not in needed:
        return ground
    if needed[label] != saying:
        raise NoGround((), "saying")
    for word, needs in other_givens:
        if word != label and word in needed and needed[word] != needs:
            raise NoGround((), "given")
    return with_ground(ground, label, other)
