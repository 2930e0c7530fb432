"""The parts of a ground, the grounds that stand in one, and which ground is plain."""

# What each part of a tuple of each word is, in their order; which is one of the numbers of sums.
PARTS = {
    "given": ("label", "saying"),
    "lets": ("label", "saying", "ground"),
    "uses": ("ground", "ground"),
    "both": ("ground", "ground"),
    "first": ("ground",),
    "second": ("ground",),
    "this": ("ground", "saying"),
    "that": ("saying", "ground"),
    "cases": ("ground", "label", "ground", "label", "ground"),
    "for": ("name", "ground"),
    "at": ("ground", "term"),
    "such": ("body", "term", "ground"),
    "open": ("ground", "name", "label", "ground"),
    "absurd": ("ground", "saying"),
    "equal": ("term",),
    "put": ("ground", "body", "ground"),
    "reckoned": ("term", "term"),
    "sums": ("which", "term", "term"),
    "down": ("ground",),
    "never": ("ground",),
    "climb": ("body", "ground", "name", "label", "ground", "term"),
    "twice": ("ground",),
}

# For a word and the place of a ground in its tuple: the places of the names and labels that are closed in that ground.
CLOSED_AT = {
    ("lets", 3): (1,),
    ("cases", 3): (2,),
    ("cases", 5): (4,),
    ("for", 2): (1,),
    ("open", 4): (2, 3),
    ("climb", 5): (3, 4),
}


def parts_of(ground):
    """What each part of a ground is, in their order."""
    return PARTS[ground[0]]


def grounds_of(ground):
    """A list of the grounds of a ground, in their order."""
    return [part for part, what in zip(ground[1:], parts_of(ground)) if what == "ground"]


def closed_words(ground):
    """For each ground of a ground, in their order: the name and the label that are closed in it, or None for either."""
    parts = parts_of(ground)
    rows = []
    for at, what in enumerate(parts, start=1):
        if what == "ground":
            closed = {"name": None, "label": None}
            for place in CLOSED_AT.get((ground[0], at), ()):
                closed[parts[place - 1]] = ground[place]
            rows.append((closed["name"], closed["label"]))
    return rows


def is_plain(ground):
    """Whether no twice stands in a ground."""
    todo = [ground]
    while todo:
        piece = todo.pop()
        if piece[0] == "twice":
            return False
        todo.extend(grounds_of(piece))
    return True
