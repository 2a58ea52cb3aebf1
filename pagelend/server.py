"""The server: the queue, serving and granting, saves and leases given back."""

from pagelend.holds import covers, hold_of, put_hold, take_away, without
from pagelend.setups import SERVER


def holds_in_way(state, file, client, kind):
    """Tell the holds in the way of a client that asked for a lease of this kind."""
    rows = without(state.lent[file], client)
    return [hold for hold in rows if kind == "write" or hold[1] == "write"]


def recall(state, file, holds):
    """Recall the leases of these holds, each but once."""
    for client, kind, low, mark, end, called, number in holds:
        if not called:
            state.send(SERVER, client, ("recall", file, mark))
            put_hold(state, file, (client, kind, low, mark, end, True, number))


def grant(state, file, row):
    """Grant what a row of the queue asks for."""
    client, kind, number, asked_mark = row
    hold = hold_of(state, client, file)
    kept = covers(hold, asked_mark)
    if hold is not None and not kept:
        take_away(state, client, file)
    mark = state.another("marks") + 1
    low = hold[2] if kept else mark
    given = "write" if kept and hold[1] == "write" else kind
    put_hold(state, file, (client, given, low, mark, state.now() + state.length, False, number))
    values = () if kept else values_of(state, file)
    state.send(SERVER, client, ("grant", file, given, mark, kept, values, number))


def values_of(state, file):
    """Tell the server's values of all pages of a file."""
    return tuple([state.contents[(file, page)] for page in range(state.pages[file])])


def serve_first(state, file):
    """Look at the first of the queue; tell whether it was granted."""
    row = state.lines[file][0]
    client, kind = row[:2]
    over = [hold for hold in holds_in_way(state, file, client, kind) if hold[4] <= state.now()]
    for hold in over:
        take_away(state, hold[0], file)
    if kind == "write" and state.now() < state.counts["quiet"]:
        return False
    left = holds_in_way(state, file, client, kind)
    if left:
        recall(state, file, left)
        return False
    state.change(state.lines, file, state.lines[file][1:])
    grant(state, file, row)
    return True


def serve(state, file):
    """Serve a file: grant what its queue asks for, as far as it can be."""
    granted = True
    while granted and state.lines[file]:
        granted = serve_first(state, file)


def take_ask(state, client, number, what):
    """An ask comes: it is queued, where no newer one came ahead of it."""
    file, kind, mark = what[1:]
    hold = hold_of(state, client, file)
    known = [row[2] for row in state.lines[file] if row[0] == client]
    if hold is not None:
        known.append(hold[6])
    if max(known, default=-1) < number:
        rows = without(state.lines[file], client)
        state.change(state.lines, file, (*rows, (client, kind, number, mark)))
    serve(state, file)


def put_row(state, file, row):
    """Put a saved row in its page, where that has nothing as new."""
    page, value, mark, number = row
    place = (file, page)
    if state.stamps[place] < (mark, number):
        state.change(state.contents, place, value)
        state.change(state.stamps, place, (mark, number))


def save_rows(state, client, what):
    """Save the rows of a message, or fence it where they do not count."""
    word, file, mark, rows = what
    hold = hold_of(state, client, file)
    counting = [row for row in rows if covers(hold, row[2])]
    for row in counting:
        put_row(state, file, row)
    if len(counting) < len(rows):
        state.send(SERVER, client, ("fenced", file, mark))
    elif word == "save":
        state.send(SERVER, client, ("saved", file, mark, rows))


def take_back_lease(state, client, what):
    """A lease comes back: its hold is taken away, where it is still the same."""
    file, mark = what[1:3]
    save_rows(state, client, what)
    hold = hold_of(state, client, file)
    if hold is not None and hold[3] == mark:
        take_away(state, client, file)
    serve(state, file)


def come_to_server(state, client, number, what):
    """A message of a client's comes to the server."""
    if what[0] == "ask":
        take_ask(state, client, number, what)
    elif what[0] == "save":
        save_rows(state, client, what)
    else:
        take_back_lease(state, client, what)


def crash_server(state):
    """The server falls: but for holds to write, it forgets who has a lease or asks for one."""
    end = state.now() + state.length
    state.change(state.counts, "quiet", end)
    for file in state.pages:
        rows = [hold for hold in state.lent[file] if hold[1] == "write"]
        kept = [(*hold[:4], end, False, hold[6]) for hold in rows]
        state.change(state.lent, file, tuple(kept))
        state.change(state.lines, file, ())
