"""The refusals: each is a GroundError, none is beneath another one."""


class GroundError(ValueError):
    """Any refusal."""


class NoText(GroundError):
    """A text is not that of a tree: no tree's text begins with its signs up to number at."""

    def __init__(self, at):
        self.at = at


class NoNumber(GroundError):
    """A name has no number."""

    def __init__(self, name):
        self.name = name


class NoGround(GroundError):
    """A thing is no right ground: at a place of it something isn't so, which a word tells."""

    def __init__(self, place, word):
        self.place = place
        self.word = word


class NoProgram(GroundError):
    """A thing is no program: at a place of it something isn't so."""

    def __init__(self, place):
        self.place = place


class NoYield(GroundError):
    """A ground has no yield: at a place of it a twice stands."""

    def __init__(self, place):
        self.place = place


class NoWorth(GroundError):
    """A thing has no worth, or is none that bears a saying out."""

    def __init__(self, thing):
        self.thing = thing


class NoPlace(GroundError):
    """At a place there is no detour."""

    def __init__(self, place):
        self.place = place


class Taken(GroundError):
    """A book keeps a ground by a name already."""

    def __init__(self, name):
        self.name = name


class Loose(GroundError):
    """Names are open in a ground that is to be kept."""

    def __init__(self, names):
        self.names = names


class NoBasis(GroundError):
    """The label of an open given is no name of a kept ground of its saying."""

    def __init__(self, label):
        self.label = label


class NoKept(GroundError):
    """A book keeps nothing by a name."""

    def __init__(self, name):
        self.name = name


class Unlike(GroundError):
    """A ground is of another saying than the one whose place it is to take."""

    def __init__(self, saying):
        self.saying = saying


class Ring(GroundError):
    """A ground would stand on itself, through names that each stand on the next one."""

    def __init__(self, names):
        self.names = names


class Stood(GroundError):
    """Names stand on a ground that is to be dropped."""

    def __init__(self, names):
        self.names = names


class NoRow(GroundError):
    """A row is none that a desk knows."""

    def __init__(self, row):
        self.row = row


class TooMany(GroundError):
    """A number is too great, or the steps or pieces are too many."""


class NoDeed(GroundError):
    """A book has no deed left that can be taken back."""
