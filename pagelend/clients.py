"""The clients: their tasks, leases and copies, and the messages that come to them."""

from pagelend.clocks import is_used
from pagelend.holds import count_write
from pagelend.setups import SERVER

# Answers; a read that is done at once is answered by what it saw.
DONE = "done"
WAITS = "waits"


def uses_lease(state, client, file):
    """Tell whether the client uses a lease of the file now."""
    lease = state.leases.get((client, file))
    if lease is None:
        return False
    clock = state.clocks[client]
    return is_used(clock, lease[2], state.now(), length=state.length, drift=state.drift)


def can_do(state, client, task):
    """Tell whether the client can do a task now."""
    kind, file = task[1:3]
    if not uses_lease(state, client, file):
        return False
    return kind == "read" or state.leases[(client, file)][0] == "write"


def put_write(state, client, task):
    """Put a value in the copy, and make its page dirty."""
    file, page, value = task[2:]
    pair = (client, file)
    mark = state.leases[pair][1]
    number = state.written[client] + 1
    state.change(state.written, client, number)
    values = state.copies[pair]
    state.change(state.copies, pair, values[:page] + (value,) + values[page + 1:])
    rows = [row for row in state.unheard[pair] if row[0] != page]
    state.change(state.unheard, pair, tuple(sorted([*rows, (page, value, mark, number)])))
    state.tell("wrote", client, task, value)
    count_write(state, client, task, (mark, number))


def do_task(state, client, task):
    """Do a task that can be done; tell what a read saw, or that it is done."""
    kind, file, page = task[1:4]
    if kind == "write":
        put_write(state, client, task)
        return DONE
    seen = state.copies[(client, file)][page]
    state.tell("read", client, task, seen)
    return seen


def ask_lease(state, client):
    """Ask for a lease for the task that waits."""
    kind, file = state.tasks[client][1:3]
    pair = (client, file)
    lease = state.leases.get(pair)
    mark = 0 if lease is None else lease[1]
    number = state.send(client, SERVER, ("ask", file, kind, mark))
    state.change(state.askings, pair, (number, state.now()))


def begin_task(state, client, kind, place, value):
    """Begin a task at a place, (file, page): do it at once, or let it wait."""
    task = (state.another("tasks"), kind, *place, value)
    state.tell("began", client, task, value)
    if can_do(state, client, task):
        return do_task(state, client, task)
    state.change(state.tasks, client, task)
    ask_lease(state, client)
    return WAITS


def leave_lease(state, client, file):
    """Leave the lease, with its copy and all that is dirty."""
    pair = (client, file)
    state.change(state.leases, pair, None)
    state.change(state.copies, pair, ())
    state.change(state.unheard, pair, ())


def return_lease(state, client, file, mark):
    """Send a lease back with all that is dirty; nothing of this mark is taken any more."""
    pair = (client, file)
    state.send(client, SERVER, ("back", file, mark, state.unheard[pair]))
    leave_lease(state, client, file)
    state.change(state.recalled, pair, max(state.recalled[pair], mark))


def take_lease(state, client, asked, what):
    """Take the lease of a grant that was asked for then."""
    file, kind, mark, kept, values = what[1:6]
    pair = (client, file)
    state.change(state.leases, pair, (kind, mark, asked))
    if not kept:
        state.change(state.copies, pair, values)
        state.change(state.unheard, pair, ())
    task = state.tasks.get(client)
    if task is not None and task[2] == file and can_do(state, client, task):
        state.change(state.tasks, client, None)
        do_task(state, client, task)


def take_grant(state, client, what):
    """A grant comes: it is taken where it is the one asked for, and not recalled since."""
    file, mark, kept, number = what[1], what[3], what[4], what[6]
    pair = (client, file)
    asking = state.askings.get(pair)
    if asking is None or asking[0] != number:
        return
    state.change(state.askings, pair, None)
    # A kept grant brings no values: without the copy it is of no use.
    lacking = kept and pair not in state.leases
    if mark > state.recalled[pair] and not lacking:
        take_lease(state, client, asking[1], what)


def take_recall(state, client, what):
    """A recall comes: it is answered, where the client has no newer lease."""
    file, mark = what[1:]
    lease = state.leases.get((client, file))
    if lease is None or lease[1] <= mark:
        return_lease(state, client, file, mark)


def take_saved(state, client, what):
    """It comes that rows are saved: what was not written anew since is dirty no more."""
    file, mark, rows = what[1:]
    pair = (client, file)
    stamps = {row[0]: row[2:] for row in rows}
    left = [row for row in state.unheard[pair] if row[2:] > stamps.get(row[0], (0, 0))]
    state.change(state.unheard, pair, tuple(left))


def take_fenced(state, client, what):
    """It comes that rows were refused: the lease they were sent by is gone."""
    file, mark = what[1:]
    lease = state.leases.get((client, file))
    if lease is not None and lease[1] == mark:
        leave_lease(state, client, file)


TAKERS = {"grant": take_grant, "recall": take_recall, "saved": take_saved, "fenced": take_fenced}


def come_to_client(state, client, what):
    """A message of the server's comes to a client."""
    taker = TAKERS[what[0]]
    taker(state, client, what)


def fall_client(state, client):
    """A client falls: but for how many writes it did, it forgets all."""
    for file in state.pages:
        leave_lease(state, client, file)
        state.change(state.askings, (client, file), None)
        state.change(state.recalled, (client, file), 0)
    state.change(state.tasks, client, None)
