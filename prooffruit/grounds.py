"""The grounds that stand in a ground, and which ground is plain."""

# Where in a tuple of each word its grounds stand, in their order.
GROUNDS_AT = {
    "given": (),
    "lets": (3,),
    "uses": (1, 2),
    "both": (1, 2),
    "first": (1,),
    "second": (1,),
    "this": (1,),
    "that": (2,),
    "cases": (1, 3, 5),
    "for": (2,),
    "at": (1,),
    "such": (3,),
    "open": (1, 4),
    "absurd": (1,),
    "equal": (),
    "put": (1, 3),
    "reckoned": (),
    "sums": (),
    "down": (1,),
    "never": (1,),
    "climb": (2, 5),
    "twice": (1,),
}


def grounds_of(ground):
    """A list of the grounds of a ground, in their order."""
    return [ground[at] for at in GROUNDS_AT[ground[0]]]


def is_plain(ground):
    """Whether no twice stands in a ground."""
    todo = [ground]
    while todo:
        piece = todo.pop()
        if piece[0] == "twice":
            return False
        todo.extend(grounds_of(piece))
    return True
