"""What DOC.md's points 7, 8, 10, 11 and 17 say, once more and by themselves: short, slow, calling itself.

The tests compare what the program tells with what is told here, for very many things.
"""

from prooffruit.sayings import is_body, is_saying, names_in, put_in, taken
from prooffruit.terms import is_term, is_word, worth

NO = ("no",)
NOUGHT = ("num", 0)
NONE = ("none",)
NUMBER = ("number",)


class Refused(Exception):
    def __init__(self, place, word=None):
        self.told = (place, word)


def check(holds, place, word=None):
    if not holds:
        raise Refused(place, word)


def is_ground(thing):
    return True


def fits(thing, *checks):
    return len(thing) == len(checks) + 1 and all(told(part) for part, told in zip(thing[1:], checks))


def which(*numbers):
    return lambda part: type(part) is int and part in numbers


GROUND_FORMS = {
    "given": [(is_word, is_saying)], "lets": [(is_word, is_saying, is_ground)], "uses": [(is_ground, is_ground)],
    "both": [(is_ground, is_ground)], "first": [(is_ground,)], "second": [(is_ground,)],
    "this": [(is_ground, is_saying)], "that": [(is_saying, is_ground)],
    "cases": [(is_ground, is_word, is_ground, is_word, is_ground)], "for": [(is_word, is_ground)],
    "at": [(is_ground, is_term)], "such": [(is_body, is_term, is_ground)],
    "open": [(is_ground, is_word, is_word, is_ground)], "absurd": [(is_ground, is_saying)], "equal": [(is_term,)],
    "put": [(is_ground, is_body, is_ground)], "reckoned": [(is_term, is_term)],
    "sums": [(which(0, 1, 2, 3), is_term, is_term)], "down": [(is_ground,)],
    "never": [(is_ground,)], "climb": [(is_body, is_ground, is_word, is_word, is_ground, is_term)],
    "twice": [(is_ground,)],
}


def merge(place, word, *tables):
    whole = {}
    for table in tables:
        for label, what in table.items():
            check(whole.setdefault(label, what) == what, place, word)
    return whole


def without(place, word, table, label, what):
    check(table.get(label, what) == what, place, word)
    return {key: value for key, value in table.items() if key != label}


def named(opens):
    return [name for saying in opens.values() for name in names_in(saying)]


def ground_told(g, place=()):
    """(saying, dict of open givens), or Refused."""
    well = isinstance(g, tuple) and len(g) > 0 and isinstance(g[0], str) and g[0] in GROUND_FORMS
    well = well and any(fits(g, *form) for form in GROUND_FORMS[g[0]])
    check(well, place, "form")
    form = next(form for form in GROUND_FORMS[g[0]] if fits(g, *form))
    inner = [part for part, told in zip(g[1:], form) if told is is_ground]
    told = [ground_told(part, place + (at,)) for at, part in enumerate(inner)]
    said = [saying for saying, _ in told]
    P, Q, R = (said + [None] * 3)[:3]
    op, oq, orr = ([opens for _, opens in told] + [{}] * 3)[:3]
    word = g[0]
    needs = {
        "uses": lambda: P[0] == "if" and P[1] == Q, "first": lambda: P[0] == "and", "second": lambda: P[0] == "and",
        "cases": lambda: P[0] == "or" and Q == R, "at": lambda: P[0] == "all",
        "such": lambda: P == put_in(g[1], g[2]), "open": lambda: P[0] == "some", "absurd": lambda: P == NO,
        "put": lambda: P[0] == "same" and Q == put_in(g[2], P[1]),
        "down": lambda: P[0] == "same" and P[1][0] == P[2][0] == "next",
        "never": lambda: P[0] == "same" and P[1][0] == "next" and P[2] == NOUGHT,
        "climb": lambda: P == put_in(g[1], NOUGHT) and Q == put_in(g[1], ("next", ("name", g[3]))),
        "twice": lambda: P[0] == "if" and P[2] == NO and P[1][0] == "if" and P[1][2] == NO,
    }
    check(needs.get(word, lambda: True)(), place, "saying")
    saying = {
        "given": lambda: g[2], "lets": lambda: ("if", g[2], P), "uses": lambda: P[2], "both": lambda: ("and", P, Q),
        "first": lambda: P[1], "second": lambda: P[2], "this": lambda: ("or", P, g[2]),
        "that": lambda: ("or", g[1], P), "cases": lambda: Q, "for": lambda: ("all", taken(P, g[1])),
        "at": lambda: put_in(P[1], g[2]), "such": lambda: ("some", g[1]), "open": lambda: Q, "absurd": lambda: g[2],
        "equal": lambda: ("same", g[1], g[1]), "put": lambda: put_in(g[2], P[2]),
        "reckoned": lambda: ("same", g[1], g[2]),
        "sums": lambda: [
            lambda: ("same", ("plus", g[2], NOUGHT), g[2]),
            lambda: ("same", ("plus", g[2], ("next", g[3])), ("next", ("plus", g[2], g[3]))),
            lambda: ("same", ("times", g[2], NOUGHT), NOUGHT),
            lambda: ("same", ("times", g[2], ("next", g[3])), ("plus", ("times", g[2], g[3]), g[2])),
        ][g[1]](),
        "down": lambda: ("same", P[1][1], P[2][1]), "never": lambda: NO, "climb": lambda: put_in(g[1], g[6]),
        "twice": lambda: P[1][1],
    }[word]()
    check(is_saying(saying), place, "size")
    if word == "given":
        return saying, {g[1]: g[2]}
    if word == "lets":
        op = without(place, "given", op, g[1], g[2])
    if word == "cases":
        oq = without(place, "given", oq, g[2], P[1])
        orr = without(place, "given", orr, g[4], P[2])
    if word == "open":
        oq = without(place, "given", oq, g[3], put_in(P[1], ("name", g[2])))
    if word == "climb":
        oq = without(place, "given", oq, g[4], put_in(g[1], ("name", g[3])))
    opens = merge(place, "given", op, oq, orr)
    if word == "for":
        check(g[1] not in named(op), place, "name")
    if word == "open":
        check(g[2] not in names_in(Q) + names_in(P) + named(oq), place, "name")
    if word == "climb":
        check(g[3] not in names_in(g[1]) + named(oq), place, "name")
    if word == "reckoned":
        check(names_in(g[1]) + names_in(g[2]) == [], place, "number")
        check(reckoned(g[1]) == reckoned(g[2]) != None, place, "number")
    return saying, opens


def reckoned(term):
    try:
        return worth(term, {})
    except ValueError:
        return None


def is_kind(thing):
    if thing in (NONE, NUMBER):
        return True
    if not isinstance(thing, tuple) or len(thing) != 3 or thing[0] not in ("pair", "from", "either"):
        return False
    return all(is_kind(part) and (thing[0] == "either" or part != NONE) for part in thing[1:])


def is_program(thing):
    return True


def is_number(thing):
    return type(thing) is int and 0 <= thing < 10 ** 60


PROGRAM_FORMS = {
    "nothing": (), "num": (is_number,), "name": (is_word,), "next": (is_program,), "plus": (is_program, is_program),
    "times": (is_program, is_program), "known": (is_word, is_kind), "lets": (is_word, is_kind, is_program),
    "for": (is_word, is_program), "call": (is_program, is_program), "pair": (is_program, is_program),
    "first": (is_program,), "second": (is_program,), "parts": (is_program, is_word, is_word, is_program),
    "this": (is_program, is_kind), "that": (is_kind, is_program),
    "cases": (is_program, is_word, is_program, is_word, is_program),
    "climb": (is_program, is_word, is_word, is_program, is_program),
}


def program_told(p, place=()):
    """(kind, set of names, dict of knowns), or Refused."""
    well = isinstance(p, tuple) and len(p) > 0 and isinstance(p[0], str) and p[0] in PROGRAM_FORMS
    check(well and fits(p, *PROGRAM_FORMS[p[0]]), place)
    inner = [part for part, told in zip(p[1:], PROGRAM_FORMS[p[0]]) if told is is_program]
    told = [program_told(part, place + (at,)) for at, part in enumerate(inner)]
    P, Q, R = ([kind for kind, _, _ in told] + [None] * 3)[:3]
    names = [set(row[1]) for row in told]
    knowns = [row[2] for row in told]
    word = p[0]
    if word in ("next", "plus", "times"):
        check(P == NUMBER and Q in (None, NUMBER), place)
    if word == "call":
        check(P[0] == "from" and P[1] == Q, place)
    if word in ("first", "second", "parts"):
        check(P[0] == "pair", place)
    if word == "parts":
        check(P[1] == NUMBER, place)
        names[1] -= {p[2]}
        knowns[1] = without(place, None, knowns[1], p[3], P[2])
    if word == "cases":
        check(P[0] == "either" and Q == R, place)
        knowns[1] = without(place, None, knowns[1], p[2], P[1])
        knowns[2] = without(place, None, knowns[2], p[4], P[2])
    if word == "climb":
        check(P == Q != NONE and R == NUMBER, place)
        names[1] -= {p[2]}
        knowns[1] = without(place, None, knowns[1], p[3], P)
    if word == "lets":
        knowns[0] = without(place, None, knowns[0], p[1], p[2])
    if word == "for":
        names[0] -= {p[1]}
    kind = {
        "nothing": lambda: NONE, "known": lambda: p[2], "lets": lambda: ("from", p[2], P),
        "for": lambda: ("from", NUMBER, P), "call": lambda: P[2], "pair": lambda: ("pair", P, Q),
        "first": lambda: P[1], "second": lambda: P[2], "parts": lambda: Q, "this": lambda: ("either", P, p[2]),
        "that": lambda: ("either", p[1], P), "cases": lambda: Q, "climb": lambda: P,
    }.get(word, lambda: NUMBER)()
    check(kind[0] not in ("pair", "from") or NONE not in kind[1:], place)
    if word == "name":
        names = [{p[1]}]
    if word == "known":
        knowns = [{p[1]: p[2]}]
    return kind, set().union(*names), merge(place, None, *knowns)


class TooManySteps(Exception):
    pass


class Runner:
    """Runs programs by calling itself; counts its steps."""

    def __init__(self, limit=None):
        self.steps = 0
        self.limit = limit

    def run(self, p, named, known):
        self.steps += 1
        if self.limit is not None and self.steps > self.limit:
            raise TooManySteps()
        word = p[0]
        if word == "nothing":
            return None
        if word == "num":
            return p[1]
        if word == "name":
            return self.number(named[p[1]])
        if word == "next":
            return self.number(self.run(p[1], named, known) + 1)
        if word in ("plus", "times"):
            left = self.run(p[1], named, known)
            right = self.run(p[2], named, known)
            return self.number(left + right if word == "plus" else left * right)
        if word == "known":
            return known[p[1]]
        if word == "lets":
            return lambda told: self.run(p[3], named, {**known, p[1]: told})
        if word == "for":
            return lambda told: self.run(p[2], {**named, p[1]: told}, known)
        if word == "call":
            rule = self.run(p[1], named, known)
            return rule(self.run(p[2], named, known))
        if word == "pair":
            left = self.run(p[1], named, known)
            return left, self.run(p[2], named, known)
        if word in ("first", "second"):
            return self.run(p[1], named, known)[0 if word == "first" else 1]
        if word == "parts":
            n, told = self.run(p[1], named, known)
            return self.run(p[4], {**named, p[2]: n}, {**known, p[3]: told})
        if word == "this":
            return "this", self.run(p[1], named, known)
        if word == "that":
            return "that", self.run(p[2], named, known)
        if word == "cases":
            side, told = self.run(p[1], named, known)
            at = 2 if side == "this" else 4
            return self.run(p[at + 1], named, {**known, p[at]: told})
        turns = self.run(p[5], named, known)
        last = self.run(p[1], named, known)
        for n in range(turns):
            last = self.run(p[4], {**named, p[2]: n}, {**known, p[3]: last})
        return last

    def number(self, n):
        if n >= 10 ** 60:
            raise TooManySteps()
        return n


# Which parts of a ground close words in which of its parts.
CLOSING = {("lets", 3): (1,), ("cases", 3): (2,), ("cases", 5): (4,), ("for", 2): (1,), ("open", 4): (2, 3),
           ("climb", 5): (3, 4)}
WORD_AT = {"given": {1: "label"}, "lets": {1: "label"}, "cases": {2: "label", 4: "label"}, "for": {1: "name"},
           "open": {2: "name", 3: "label"}, "climb": {3: "name", 4: "label"}}


def nameless(thing, names=None, labels=None, depth=0, put=None):
    """A ground with numbers for closed names and labels, told by how far out their closings stand.

    put tells what stands for open words: ("name", x) or ("label", u), told as it is.
    """
    names, labels, put = names or {}, labels or {}, put or {}
    if not isinstance(thing, tuple):
        return thing
    if thing[0] == "name":
        if thing[1] in names:
            return ("closed", depth - names[thing[1]])
        return put.get(("name", thing[1]), thing)
    if thing[0] == "given":
        if thing[1] not in labels and ("label", thing[1]) in put:
            return put["label", thing[1]]
        label = depth - labels[thing[1]] if thing[1] in labels else thing[1]
        return ("given", label, nameless(thing[2], names, labels, depth, put))
    closing = WORD_AT.get(thing[0], {})
    parts = [thing[0]]
    for at, part in enumerate(thing[1:], start=1):
        inner_names, inner_labels, inner_depth = dict(names), dict(labels), depth
        for place in CLOSING.get((thing[0], at), ()):
            inner_depth = depth + 1
            (inner_names if closing[place] == "name" else inner_labels)[thing[place]] = depth
        parts.append(None if at in closing else nameless(part, inner_names, inner_labels, inner_depth, put))
    return tuple(parts)


def fresh_words(thing):
    """Words that stand nowhere in a thing."""
    text = repr(thing)
    for number in range(26 ** 3):
        word = "q" + "".join(chr(97 + number // 26 ** place % 26) for place in (2, 1, 0))
        if repr(word) not in text:
            yield word


def apart(g, fresh, names=None, labels=None):
    """A ground in which each closing has a word of its own."""
    names, labels = names or {}, labels or {}
    closing = {} if g[0] == "given" else WORD_AT.get(g[0], {})
    new = {place: next(fresh) for place in closing}
    parts = [g[0]]
    for at, part in enumerate(g[1:], start=1):
        if at in new:
            parts.append(new[at])
        elif g[0] == "given" and at == 1:
            parts.append(labels.get(part, part))
        elif isinstance(part, tuple) and part[0] in GROUND_FORMS:
            tables = {"name": dict(names), "label": dict(labels)}
            for place in CLOSING.get((g[0], at), ()):
                tables[closing[place]][g[place]] = new[place]
            parts.append(apart(part, fresh, tables["name"], tables["label"]))
        else:
            parts.append(in_place(part, lambda piece: ("name", names.get(piece[1], piece[1]))
                                  if piece[0] == "name" else None))
    return tuple(parts)


def in_place(thing, told):
    """A thing in which what is told stands in the place of each tuple of which anything is told."""
    if not isinstance(thing, tuple):
        return thing
    new = told(thing)
    return tuple(in_place(part, told) for part in thing) if new is None else new


def term_for(thing, x, t):
    return in_place(thing, lambda piece: t if piece == ("name", x) else None)


def ground_for(thing, u, p):
    return in_place(thing, lambda piece: p if piece[:2] == ("given", u) else None)


def bound_for(body, told, depth=0):
    """A body in which told(out by, depth) stands for each bound that is out by 0 or 1."""
    if body[0] == "bound":
        return told(body[1] - depth, depth) if body[1] >= depth else body
    if body[0] in ("num", "name"):
        return body
    inner = depth + (body[0] in ("all", "some"))
    return (body[0],) + tuple(bound_for(part, told, inner) for part in body[1:])


def own_for(body, t):
    return bound_for(body, lambda out, depth: t if out == 0 else ("bound", depth))


def outer_for(body, t):
    return bound_for(body, lambda out, depth: ("bound", depth) if out == 0 else t)


def undone(g):
    """What comes of a piece of a ground whose closings are apart, or None where it is no detour."""
    word, p = g[0], g[1]
    if word in ("first", "second") and p[0] == "both":
        return p[1 if word == "first" else 2]
    if word == "uses" and p[0] == "lets":
        return ground_for(p[3], p[1], g[2])
    if word == "at" and p[0] == "for":
        return term_for(p[2], p[1], g[2])
    if word == "cases" and p[0] == "this":
        return ground_for(g[3], g[2], p[1])
    if word == "cases" and p[0] == "that":
        return ground_for(g[5], g[4], p[2])
    if word == "open" and p[0] == "such":
        return ground_for(term_for(g[4], g[2], p[2]), g[3], p[3])
    if word == "climb":
        return climbed(g)
    return led(*g[1:]) if word == "put" else None


def climbed(g):
    _, A, p, x, u, q, t = g
    if t == NOUGHT:
        return p
    if t[0] == "next":
        return ground_for(term_for(q, x, t[1]), u, g[:6] + (t[1],))
    if t[0] == "num":
        s = ("num", t[1] - 1)
        return ("put", ("reckoned", ("next", s), t), A, ground_for(term_for(q, x, s), u, g[:6] + (s,)))
    if names_in(t) or reckoned(t) is None:
        return None
    n = ("num", reckoned(t))
    return ("put", ("reckoned", n, t), A, g[:6] + (n,))


def led(p, A, q):
    if (A[0], q[0]) not in [("and", "both"), ("or", "this"), ("or", "that"), ("if", "lets"), ("all", "for"),
                            ("some", "such")]:
        return None
    _, t, s = ground_told(p)[0]
    if q[0] == "both":
        return ("both", ("put", p, A[1], q[1]), ("put", p, A[2], q[2]))
    if q[0] == "this":
        return ("this", ("put", p, A[1], q[1]), put_in(A[2], s))
    if q[0] == "that":
        return ("that", put_in(A[1], s), ("put", p, A[2], q[2]))
    if q[0] == "lets":
        first = put_in(A[1], s)
        back = ("put", ("put", p, ("same", ("bound", 0), t), ("equal", t)), A[1], ("given", q[1], first))
        return ("lets", q[1], first, ("put", p, A[2], ground_for(q[3], q[1], back)))
    if q[0] == "for":
        return ("for", q[1], ("put", p, own_for(A[1], ("name", q[1])), q[2]))
    return ("such", outer_for(A[1], s), q[2], ("put", p, own_for(A[1], q[2]), q[3]))
