"""Putting terms for names and grounds for labels in a ground, where closed names and labels are exchanged ahead."""

from prooffruit.grounds import closed_words, grounds_of, parts_of
from prooffruit.order import popped
from prooffruit.pieces import changed
from prooffruit.sayings import names_in
from prooffruit.wording import Words

# The parts in which names stand.
WORDED = ("term", "saying", "body")


def parts_with(piece, whats):
    """A list of the parts of a ground that are one of some things."""
    return [part for part, what in zip(piece[1:], parts_of(piece)) if what in whats]


def words_of(ground):
    """The names and labels that stand anywhere in a ground, open or closed: a dict of True."""
    words = {}
    todo = [ground]
    while todo:
        piece = todo.pop()
        for part in parts_with(piece, WORDED):
            for name in names_in(part):
                words[name] = True
        for word in parts_with(piece, ("name", "label")):
            words[word] = True
        todo.extend(grounds_of(piece))
    return words


def open_names_of(ground):
    """The names that stand somewhere in a ground where nothing closes them: a dict of True."""
    names = {}
    todo = [(ground, {})]
    while todo:
        piece, closed = todo.pop()
        for part in parts_with(piece, WORDED):
            for name in names_in(part):
                if name not in closed:
                    names[name] = True
        for inner, (name, _) in zip(grounds_of(piece), closed_words(piece)):
            todo.append((inner, closed if name is None else {**closed, name: True}))
    return names


def open_labels_of(ground):
    """The labels of the givens of a ground that nothing closes: a dict of True."""
    labels = {}
    todo = [(ground, {})]
    while todo:
        piece, closed = todo.pop()
        if piece[0] == "given" and piece[1] not in closed:
            labels[piece[1]] = True
        for inner, (_, label) in zip(grounds_of(piece), closed_words(piece)):
            todo.append((inner, closed if label is None else {**closed, label: True}))
    return labels


class Exchange:
    """Which closed names and labels are exchanged, and the words that are used already."""

    def __init__(self, names, labels, used):
        self.shunned = {"name": names, "label": labels}
        self.words = Words(used)

    def closed(self, part, what):
        """A part of a piece that closes it if it is a name or label: another one for a shunned one."""
        if what not in self.shunned or part not in self.shunned[what]:
            return part
        return self.words.fresh()


def renamed(thing, names):
    """A term, a saying or a body with terms in the place of names, as a dict tells."""
    if len(names) == 0:
        return thing
    return changed(thing, lambda piece, around: names.get(piece[1], piece) if piece[0] == "name" else piece)


def put_for_given(piece, names, labels):
    """What comes of a given: labels tell of labels the ground that stands there, or the label of the given."""
    told = labels.get(piece[1], piece[1])
    return told if isinstance(told, tuple) else ("given", told, renamed(piece[2], names))


def beneath(table, word, other, told):
    """What is put for what beneath the closing of a word, or of another one in its place: told is put for it then."""
    if word is None:
        return table
    inner = {key: table[key] for key in table if key != word}
    if other != word:
        inner[word] = told
    return inner


def rejoined(piece, inner):
    """A piece with other grounds in the place of its own, in their order."""
    parts = [piece[0]]
    at = 0
    for part, what in zip(piece[1:], parts_of(piece)):
        parts.append(inner[at] if what == "ground" else part)
        at += 1 if what == "ground" else 0
    return tuple(parts)


def outer_parts(piece, names, exchange):
    """A piece in which all parts but the grounds are as they come to be."""
    parts = [piece[0]]
    for part, what in zip(piece[1:], parts_of(piece)):
        parts.append(renamed(part, names) if what in WORDED else exchange.closed(part, what))
    return tuple(parts)


def exchanged(ground, names, labels, exchange):
    """A ground with what dicts tell in the place of names (terms) and labels (grounds, or other labels)."""
    done = []
    todo = [(ground, names, labels, False)]
    while todo:
        piece, names_here, labels_here, is_through = todo.pop()
        if is_through:
            done.append(rejoined(piece, popped(done, len(grounds_of(piece)))))
        elif piece[0] == "given":
            done.append(put_for_given(piece, names_here, labels_here))
        else:
            outer = outer_parts(piece, names_here, exchange)
            todo.append((outer, {}, {}, True))
            rows = list(zip(grounds_of(piece), closed_words(piece), closed_words(outer)))
            for inner, (name, label), (other_name, other_label) in reversed(rows):
                names_inner = beneath(names_here, name, other_name, ("name", other_name))
                labels_inner = beneath(labels_here, label, other_label, other_label)
                todo.append((inner, names_inner, labels_inner, False))
    return done[0]


def with_term(ground, name, term):
    """A right ground with a term put for a name, wherever that isn't closed."""
    shunned = {word: True for word in names_in(term)}
    used = {**words_of(ground), **shunned, name: True}
    return exchanged(ground, {name: term}, {}, Exchange(shunned, {}, used))


def with_ground(ground, label, other):
    """A right ground with another one put into it for a label, wherever that is open."""
    shunned = open_names_of(other)
    labels = open_labels_of(other)
    used = {**words_of(ground), **shunned, **labels, label: True}
    return exchanged(ground, {}, {label: other}, Exchange(shunned, labels, used))
