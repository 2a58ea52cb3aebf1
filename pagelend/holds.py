"""The holds of the server, and the writes that are lost with them."""


def hold_of(state, client, file):
    """Tell the client's hold of the file, None without one."""
    for hold in state.lent[file]:
        if hold[0] == client:
            return hold
    return None


def covers(hold, mark):
    """Tell whether there is a hold, and the mark is from its low to its mark."""
    return hold is not None and hold[2] <= mark <= hold[3]


def without(rows, client):
    """Tell the rows, of holds or of a queue, but for that client's."""
    return tuple([row for row in rows if row[0] != client])


def put_hold(state, file, hold):
    """Put a hold in the place of that client's, or beside the others."""
    rows = without(state.lent[file], hold[0])
    state.change(state.lent, file, tuple(sorted([*rows, hold])))


def take_away(state, client, file):
    """Take the client's hold away; what it wrote and did not save is lost."""
    state.change(state.lent, file, without(state.lent[file], client))
    writes = state.unsaved[(client, file)]
    numbers = sorted(writes)
    for number in numbers:
        task, stamp = writes[number]
        if state.stamps[(file, task[3])] < stamp:
            state.tell("lost", client, task, task[4])
        # Stamps never fall, so what is saved by now is never lost later.
        state.change(writes, number, None)


def count_write(state, client, task, stamp):
    """Take note of a write by its stamp; it is lost at once without its hold."""
    file = task[2]
    if covers(hold_of(state, client, file), stamp[0]):
        state.change(state.unsaved[(client, file)], task[0], (task, stamp))
    else:
        state.tell("lost", client, task, task[4])
