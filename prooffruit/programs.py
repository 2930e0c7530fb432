"""Programs: of what kind one is, which names and knowns are open in it, and why anything else is none."""

from prooffruit.errors import NoProgram
from prooffruit.kinds import NONE, NUMBER, is_kind
from prooffruit.order import in_order, popped
from prooffruit.terms import TOO_GREAT, is_whole, is_word

MOST_PIECES = 12000
MOST_WITHIN = 250

# What each part of a tuple of each word is, in their order.
PARTS = {
    "nothing": (),
    "num": ("number",),
    "name": ("name",),
    "next": ("program",),
    "plus": ("program", "program"),
    "times": ("program", "program"),
    "known": ("label", "kind"),
    "lets": ("label", "kind", "program"),
    "for": ("name", "program"),
    "call": ("program", "program"),
    "pair": ("program", "program"),
    "first": ("program",),
    "second": ("program",),
    "parts": ("program", "name", "label", "program"),
    "this": ("program", "kind"),
    "that": ("kind", "program"),
    "cases": ("program", "label", "program", "label", "program"),
    "climb": ("program", "name", "label", "program", "program"),
}


def is_part(part, what):
    """Whether anything is what a part of a program has to be; a program is gone into by itself."""
    if what == "program":
        return True
    if what == "kind":
        return is_kind(part)
    if what == "number":
        return is_whole(part) and 0 <= part < TOO_GREAT
    return is_word(part)


def programs_of(program):
    """A list of the programs of a program, in their order."""
    return [part for part, what in zip(program[1:], PARTS[program[0]]) if what == "program"]


def inner_of(thing):
    """A list of the programs of anything, whatever they are, or None where its form isn't that of a program."""
    if not isinstance(thing, tuple) or len(thing) == 0 or not isinstance(thing[0], str):
        return None
    if thing[0] not in PARTS or len(thing) != len(PARTS[thing[0]]) + 1:
        return None
    for part, what in zip(thing[1:], PARTS[thing[0]]):
        if not is_part(part, what):
            return None
    return programs_of(thing)


def made_from(kind, other):
    """The kind of what leads from one kind to another, or None where that is no kind."""
    return None if NONE in (kind, other) else ("from", kind, other)


def kind_nothing(_, kinds):
    return NONE


def kind_number(_, kinds):
    return NUMBER if all([kind == NUMBER for kind in kinds]) else None


def kind_known(piece, _):
    return piece[2]


def kind_lets(piece, kinds):
    return made_from(piece[2], kinds[0])


def kind_for(_, kinds):
    return made_from(NUMBER, kinds[0])


def kind_call(_, kinds):
    rule, first = kinds
    return rule[2] if rule[0] == "from" and rule[1] == first else None


def kind_pair(_, kinds):
    return None if NONE in kinds else ("pair", kinds[0], kinds[1])


def kind_first(_, kinds):
    return kinds[0][1] if kinds[0][0] == "pair" else None


def kind_second(_, kinds):
    return kinds[0][2] if kinds[0][0] == "pair" else None


def kind_parts(_, kinds):
    return kinds[1] if kinds[0][0] == "pair" and kinds[0][1] == NUMBER else None


def kind_this(piece, kinds):
    return ("either", kinds[0], piece[2])


def kind_that(piece, kinds):
    return ("either", piece[1], kinds[0])


def kind_cases(_, kinds):
    return kinds[1] if kinds[0][0] == "either" and kinds[1] == kinds[2] else None


def kind_climb(_, kinds):
    start, turn, number = kinds
    return start if start == turn and start != NONE and number == NUMBER else None


# Each tells the kind of a program by the kinds of its programs, or None where these aren't as they have to be.
KIND_OF = {
    "nothing": kind_nothing,
    "num": kind_number,
    "name": kind_number,
    "next": kind_number,
    "plus": kind_number,
    "times": kind_number,
    "known": kind_known,
    "lets": kind_lets,
    "for": kind_for,
    "call": kind_call,
    "pair": kind_pair,
    "first": kind_first,
    "second": kind_second,
    "parts": kind_parts,
    "this": kind_this,
    "that": kind_that,
    "cases": kind_cases,
    "climb": kind_climb,
}


def closings(piece, kinds):
    """For each program of a piece, in their order: the name closed in it, the label, and the kind of that, or None."""
    word = piece[0]
    if word == "lets":
        return [(None, piece[1], piece[2])]
    if word == "for":
        return [(piece[1], None, None)]
    if word == "parts":
        return [(None, None, None), (piece[2], piece[3], kinds[0][2])]
    if word == "cases":
        return [(None, None, None), (None, piece[2], kinds[0][1]), (None, piece[4], kinds[0][2])]
    if word == "climb":
        return [(None, None, None), (piece[2], piece[3], kinds[0]), (None, None, None)]
    return [(None, None, None)] * len(kinds)


def judged_piece(piece, place, inner):
    """The kind, the names and the knowns of a piece of right form, by those of its programs; these two are dicts."""
    kinds = [kind for kind, _, _ in inner]
    tell = KIND_OF[piece[0]]
    kind = tell(piece, kinds)
    if kind is None:
        raise NoProgram(place)
    names = {piece[1]: True} if piece[0] == "name" else {}
    knowns = {piece[1]: piece[2]} if piece[0] == "known" else {}
    for (name, label, due), (_, inner_names, inner_knowns) in zip(closings(piece, kinds), inner):
        for word in inner_names:
            if word != name:
                names[word] = True
        for word in inner_knowns:
            if word == label:
                fits = inner_knowns[word] == due
            else:
                fits = word not in knowns or knowns[word] == inner_knowns[word]
                knowns[word] = inner_knowns[word]
            if not fits:
                raise NoProgram(place)
    return kind, names, knowns


def judged(thing):
    """What anything is as a program: (kind, names, knowns), tuples, knowns of (label, kind), both rising; NoProgram."""
    rows, fault = in_order(thing, inner_of, MOST_PIECES, MOST_WITHIN)
    done = []
    for piece, place in rows:
        done.append(judged_piece(piece, place, popped(done, len(programs_of(piece)))))
    if fault is not None:
        raise NoProgram(fault)
    kind, names, knowns = done[0]
    return kind, tuple(sorted(names)), tuple([(label, knowns[label]) for label in sorted(knowns)])
