"""Worths, and what a program tells when it is run."""

from prooffruit.errors import NoNumber, NoProgram, NoWorth, TooMany
from prooffruit.kinds import has_from
from prooffruit.programs import judged, programs_of
from prooffruit.terms import TOO_GREAT, is_whole


def is_two(thing):
    """Whether anything is a tuple of two."""
    return isinstance(thing, tuple) and len(thing) == 2


def is_worth(kind, thing):
    """Whether anything is a worth of a kind in which no from stands."""
    todo = [(kind, thing)]
    while todo:
        piece, part = todo.pop()
        if piece[0] == "none":
            fits = part is None
        elif piece[0] == "number":
            fits = is_whole(part) and 0 <= part < TOO_GREAT
        elif piece[0] == "pair":
            fits = is_two(part)
            if fits:
                todo.append((piece[2], part[1]))
                todo.append((piece[1], part[0]))
        else:
            fits = piece[0] == "either" and is_two(part) and part[0] in ("this", "that")
            if fits:
                todo.append((piece[1 if part[0] == "this" else 2], part[1]))
        if not fits:
            return False
    return True


class Scope:
    """What is named and known where a piece is gone into. It is never changed: what comes to it makes another one."""

    def __init__(self, named, known):
        self.named = named
        self.known = known

    def with_name(self, name, number):
        """A scope in which the name has that number, too."""
        named = dict(self.named)
        named[name] = number
        return Scope(named, self.known)

    def with_label(self, label, told):
        """A scope in which the label has that worth, too."""
        known = dict(self.known)
        known[label] = told
        return Scope(self.named, known)


class Machine:
    """What is still to be done, the next one last, and what the pieces told that aren't used up yet.

    Of a lets or for it is told, for as long as it runs, the piece with the scope in which it was gone into.
    """

    def __init__(self, numbers, limit):
        self.numbers = numbers
        self.left = limit
        self.todo = []
        self.done = []

    def into(self, piece, scope):
        """Leave a piece to be gone into next."""
        self.todo.append((go_into, piece, scope))

    def behind(self, act, piece, scope):
        """Leave an act to be done with a piece behind all that is left to be gone into from now on."""
        self.todo.append((act, piece, scope))

    def step(self):
        """One more step; TooMany."""
        if self.left <= 0:
            raise TooMany()
        self.left -= 1

    def tell(self, told):
        """Keep what a piece told."""
        self.done.append(told)

    def tell_number(self, number):
        """Keep a number that came; TooMany."""
        if number >= TOO_GREAT:
            raise TooMany()
        self.done.append(number)


def end_number(machine, piece, _):
    right = machine.done.pop()
    if piece[0] == "next":
        machine.tell_number(right + 1)
    elif piece[0] == "plus":
        machine.tell_number(machine.done.pop() + right)
    else:
        machine.tell_number(machine.done.pop() * right)


def end_pair(machine, _, scope):
    right = machine.done.pop()
    machine.tell((machine.done.pop(), right))


def end_half(machine, piece, _):
    two = machine.done.pop()
    machine.tell(two[0] if piece[0] == "first" else two[1])


def end_side(machine, piece, _):
    machine.tell((piece[0], machine.done.pop()))


def end_call(machine, _, scope):
    first = machine.done.pop()
    rule, kept = machine.done.pop()
    if rule[0] == "for":
        machine.into(rule[2], kept.with_name(rule[1], first))
    else:
        machine.into(rule[3], kept.with_label(rule[1], first))


def end_parts(machine, piece, scope):
    number, rest = machine.done.pop()
    machine.into(piece[4], scope.with_name(piece[2], number).with_label(piece[3], rest))


def end_cases(machine, piece, scope):
    side, told = machine.done.pop()
    at = 2 if side == "this" else 4
    machine.into(piece[at + 1], scope.with_label(piece[at], told))


def end_climb(machine, piece, scope):
    start = machine.done.pop()
    turns = machine.done.pop()
    machine.tell(start)
    machine.behind(turn, piece, (scope, 0, turns))


def turn(machine, piece, held):
    """One more turn of a climb, where one is left; the worth that came last stays where none is."""
    scope, at, turns = held
    if at < turns:
        last = machine.done.pop()
        machine.behind(turn, piece, (scope, at + 1, turns))
        machine.into(piece[4], scope.with_name(piece[2], at).with_label(piece[3], last))


# What is done behind the programs of a piece.
ENDS = {
    "next": end_number,
    "plus": end_number,
    "times": end_number,
    "call": end_call,
    "pair": end_pair,
    "first": end_half,
    "second": end_half,
    "parts": end_parts,
    "this": end_side,
    "that": end_side,
    "cases": end_cases,
    "climb": end_climb,
}


def first_programs(piece):
    """A list of the programs of a piece that are gone into ahead of all else, in this order."""
    inner = programs_of(piece)
    if piece[0] in ("parts", "cases"):
        return inner[:1]
    return [inner[2], inner[0]] if piece[0] == "climb" else inner


def go_into(machine, piece, scope):
    """A step: keep what a piece tells by itself, or leave its programs to be gone into."""
    machine.step()
    word = piece[0]
    if word == "nothing":
        machine.tell(None)
    elif word == "num":
        machine.tell_number(piece[1])
    elif word == "name":
        named = scope.named if piece[1] in scope.named else machine.numbers
        machine.tell_number(named[piece[1]])
    elif word == "known":
        machine.tell(scope.known[piece[1]])
    elif word in ("lets", "for"):
        machine.tell((piece, scope))
    else:
        machine.behind(ENDS[word], piece, scope)
        for program in reversed(first_programs(piece)):
            machine.into(program, scope)


def run(program, numbers, *, limit=20000):
    """The worth of a program for numbers, a dict from names; NoProgram, NoWorth, NoNumber, TooMany."""
    kind, names, knowns = judged(program)
    if len(knowns) > 0:
        raise NoProgram(())
    if has_from(kind):
        raise NoWorth(kind)
    for name in names:
        if name not in numbers:
            raise NoNumber(name)
    machine = Machine(numbers, limit)
    machine.into(program, Scope({}, {}))
    while machine.todo:
        act, piece, scope = machine.todo.pop()
        act(machine, piece, scope)
    return machine.done[0]
