"""The order in which grounds and programs are gone through: one behind those that stand in it, these from the left."""


def in_order(thing, inner_of, most_pieces, most_within):
    """The pieces of anything, as (piece, place), and the place of the first one whose form isn't right, or None.

    inner_of tells the list of what is to be gone through within a piece, or None where its form isn't right.
    What stands behind a piece without form isn't gone into. Where there are more pieces than the most, or further
    within one another, the whole has no right form.
    """
    rows = []
    pieces = 0
    todo = [(thing, (), False)]
    while todo:
        piece, place, is_through = todo.pop()
        if is_through:
            rows.append((piece, place))
            continue
        inner = inner_of(piece)
        if inner is None:
            return rows, place
        pieces += 1
        # Counted on the way: one tuple that stands in many places can make far more pieces than can be gone through.
        if pieces > most_pieces or len(place) >= most_within:
            return [], ()
        todo.append((piece, place, True))
        for at in range(len(inner) - 1, -1, -1):
            todo.append((inner[at], place + (at,), False))
    return rows, None


def popped(done, many):
    """A list of the last ones of a list, so many, which are taken away from it."""
    first = len(done) - many
    last = done[first:]
    del done[first:]
    return last
