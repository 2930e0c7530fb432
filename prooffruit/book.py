"""Books, which keep grounds by names; these stand on one another by the labels of their open givens."""

from prooffruit.errors import Loose, NoBasis, NoDeed, NoKept, Ring, Stood, Taken, TooMany, Unlike
from prooffruit.exchange import Exchange, exchanged
from prooffruit.grounds import closed_words, grounds_of
from prooffruit.judge import MOST_PIECES, MOST_WITHIN, grounded
from prooffruit.putting import open_names


class Kept:
    """A kept ground, its saying, and the names on which it stands, rising."""

    def __init__(self, ground, saying, labels):
        self.ground = ground
        self.saying = saying
        self.labels = labels


def size_of(ground, sizes):
    """How many pieces a ground has and how many within one another, where others stand for its open givens.

    sizes tells both of what stands for a label.
    """
    pieces = 0
    most_within = 0
    todo = [(ground, 1, sizes)]
    while todo:
        piece, within, table = todo.pop()
        more = table[piece[1]] if piece[0] == "given" and piece[1] in table else (1, 1)
        pieces += more[0]
        most_within = max(most_within, within + more[1] - 1)
        for inner, (_, label) in zip(grounds_of(piece), closed_words(piece)):
            rest = {word: table[word] for word in table if word != label} if label in table else table
            todo.append((inner, within + 1, rest))
    return pieces, most_within


class Book:
    """Grounds by names, with what was done: of each deed its name, and what was kept by it ahead, or None."""

    def __init__(self):
        self.kept = {}
        self.deeds = []

    def __len__(self):
        return len(self.kept)

    def keep(self, name, ground):
        """Keep a ground by a name; told is its saying. Taken, NoGround, Loose, NoBasis."""
        if name in self.kept:
            raise Taken(name)
        new = self.fitting(ground)
        self.deed(name, new)
        return new.saying

    def mend(self, name, ground):
        """Put another ground of the same saying in the place of a kept one.

        NoKept, NoGround, Loose, NoBasis, Unlike, Ring.
        """
        old = self.found(name)
        new = self.fitting(ground)
        if new.saying != old.saying:
            raise Unlike(new.saying)
        ring = self.ring(name, new.labels)
        if len(ring) > 0:
            raise Ring(ring)
        self.deed(name, new)

    def drop(self, name):
        """Keep a ground no more; NoKept, Stood."""
        self.found(name)
        standing = [word for word in sorted(self.kept) if name in self.kept[word].labels]
        if len(standing) > 0:
            raise Stood(tuple(standing))
        self.deed(name, None)

    def back(self):
        """Take away the last deed that isn't taken away yet; NoDeed."""
        if len(self.deeds) == 0:
            raise NoDeed()
        name, old = self.deeds.pop()
        self.put(name, old)

    def listed(self):
        """A rising list of the names."""
        return sorted(self.kept)

    def says(self, name):
        """The saying of the ground that is kept by a name; NoKept."""
        return self.found(name).saying

    def handed(self, name):
        """The ground that is kept by a name, as handed in; NoKept."""
        return self.found(name).ground

    def basis(self, name):
        """A rising list of the names on which the ground that is kept by a name stands; NoKept."""
        return list(self.found(name).labels)

    def opened(self, name):
        """The ground that is kept by a name, with those on which it stands put into it; NoKept, TooMany."""
        self.found(name)
        order = self.beneath(name)
        sizes = {}
        for word in order:
            sizes[word] = size_of(self.kept[word].ground, {label: sizes[label] for label in self.kept[word].labels})
            # What is put into another one makes that as great at least.
            if sizes[word][0] > MOST_PIECES or sizes[word][1] > MOST_WITHIN:
                raise TooMany()
        grounds = {}
        for word in order:
            table = {label: grounds[label] for label in self.kept[word].labels}
            # No name or label is open in what is put in: so nothing has to be exchanged ahead.
            grounds[word] = exchanged(self.kept[word].ground, {}, table, Exchange({}, {}, {}))
        return grounds[name]

    def found(self, name):
        """What is kept by a name; NoKept."""
        if name not in self.kept:
            raise NoKept(name)
        return self.kept[name]

    def fitting(self, ground):
        """What may be kept of a ground; NoGround, Loose, NoBasis."""
        saying, givens = grounded(ground)
        names = open_names(ground)
        if len(names) > 0:
            raise Loose(tuple(names))
        for label, needs in givens:
            if label not in self.kept or self.kept[label].saying != needs:
                raise NoBasis(label)
        return Kept(ground, saying, [label for label, _ in givens])

    def put(self, name, kept):
        """Keep something by a name from now on, or nothing for None."""
        if kept is None:
            del self.kept[name]
        else:
            self.kept[name] = kept

    def deed(self, name, new):
        """Do a deed: keep something else by a name, or nothing for None."""
        self.deeds.append((name, self.kept.get(name)))
        self.put(name, new)

    def ring(self, name, labels):
        """The names through which a name would stand on itself, if it stood on these labels; () if it wouldn't."""
        came = {}
        todo = []
        for label in labels:
            came[label] = name
            todo.append(label)
        while todo and name not in came:
            word = todo.pop()
            for label in self.kept[word].labels:
                if label not in came:
                    came[label] = word
                    todo.append(label)
        if name not in came:
            return ()
        ring = []
        word = came[name]
        while word != name:
            ring.append(word)
            word = came[word]
        ring.append(name)
        ring.reverse()
        return tuple(ring)

    def beneath(self, name):
        """A list of a name and all on which it stands, straight or by others, each behind those on which it stands."""
        order = []
        seen = set()
        todo = [(name, False)]
        while todo:
            word, is_through = todo.pop()
            if is_through:
                order.append(word)
            elif word not in seen:
                seen.add(word)
                todo.append((word, True))
                for label in self.kept[word].labels:
                    todo.append((label, False))
        return order
