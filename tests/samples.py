"""Things that several tests hand in."""

GREAT = 10 ** 60

NOUGHT = ("num", 0)
ONE = ("num", 1)
X = ("name", "x")
Y = ("name", "y")
B0 = ("bound", 0)
B1 = ("bound", 1)
B2 = ("bound", 2)
NO = ("no",)
TRUE = ("same", NOUGHT, NOUGHT)
ONE_X = ("same", ONE, X)

# What is never a name, a term, a saying, a body.
ODD = [
    None, True, False, 0, 1, -1, GREAT, "", "A", "aB", "abcdefghi", "a b", "a1", "a_", "x\n",
    "\u00e9", "\u00aa", "\u00df", "\u0430", "\uff41", "\u0131", (), [], ((),), [[]], (None,), (0,), (True,), ("",),
    ("num",), ("name",), ("bound",), ("next",), ("nothing",), ("no", "no"), ("no", None), ("no", ("no",)),
    ((("num"), 0), 0), ([],), (["num"], 0), (("no",),), ["no"], ["num", 0], ["name", "x"], ["next", ("num", 0)],
    (None, 0), (0, 0), ("NUM", 0), ("num ", 0), ("number", 0), ("nothing", 0), ("same",),
]


def tower(word, leaf, within):
    """So many pieces within one another, each of the one word with one part."""
    thing = leaf
    for _ in range(within - 1):
        thing = (word, thing)
    return thing


def slope(word, leaf, within):
    """As a tower, of a word with two parts, the first of them a leaf."""
    thing = leaf
    for _ in range(within - 1):
        thing = (word, leaf, thing)
    return thing


def bush(word, leaf, leaves):
    """A thing of that many leaves, so of twice as many pieces but one, hardly any within one another."""
    row = [leaf] * leaves
    while len(row) > 1:
        pairs = [(word, row[k], row[k + 1]) for k in range(0, len(row) - 1, 2)]
        row = pairs + (row[-1:] if len(row) % 2 else [])
    return row[0]


def nested(leaf, within, kind):
    """So many tuples, or lists, within one another around a leaf."""
    thing = leaf
    for _ in range(within):
        thing = kind([thing])
    return thing


def shared(word, leaf, within):
    """Tuples that each hold the next one twice: few tuples, but pieces without number."""
    thing = leaf
    for _ in range(within):
        thing = (word, thing, thing)
    return thing
