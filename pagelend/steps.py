"""The steps of a world: each is refused, or done and answered."""

from pagelend.clients import (
    DONE, ask_lease, begin_task, come_to_client, fall_client, return_lease)
from pagelend.errors import (
    Busy, Clean, NoClient, NoFile, NoLease, NoMessage, NoPage, NoTicks, NotWaiting, NoValue)
from pagelend.kinds import GREATEST_VALUE, is_within
from pagelend.server import come_to_server, crash_server, serve
from pagelend.setups import SERVER

MOST_TICKS = 10 ** 6


def check_client(state, client):
    """Refuse what is no client."""
    if client not in state.clocks:
        raise NoClient(client)


def check_file(state, file):
    """Refuse what is no file."""
    if file not in state.pages:
        raise NoFile(file)


def check_page(state, file, page):
    """Refuse what is no file, or no page of it."""
    check_file(state, file)
    if not 0 <= page < state.pages[file]:
        raise NoPage(page)


def check_pair(state, client, file):
    """Refuse what is no client, or no file."""
    check_client(state, client)
    check_file(state, file)


def check_free(state, client):
    """Refuse a client of which a task waits."""
    if client in state.tasks:
        raise Busy(client)


def do_read(state, client, file, page):
    """Let a client read a page."""
    check_client(state, client)
    check_page(state, file, page)
    check_free(state, client)
    return begin_task(state, client, "read", (file, page), None)


def do_write(state, client, file, page, value):
    """Let a client write a value to a page."""
    check_client(state, client)
    check_page(state, file, page)
    if not is_within(value, 1, GREATEST_VALUE):
        raise NoValue("this value can not be written")
    check_free(state, client)
    return begin_task(state, client, "write", (file, page), value)


def do_ask(state, client):
    """Let a client ask anew for the task that waits."""
    check_client(state, client)
    if client not in state.tasks:
        raise NotWaiting(client)
    ask_lease(state, client)
    return DONE


def do_pass(state, ticks):
    """Let time pass, then serve all files."""
    if not is_within(ticks, 1, MOST_TICKS):
        raise NoTicks("so much time can not pass")
    state.change(state.counts, "time", state.now() + ticks)
    for file in sorted(state.pages):
        serve(state, file)
    return DONE


def take_message(state, number):
    """Take a message off the wire, and tell it."""
    if number not in state.post:
        raise NoMessage(number)
    message = state.post[number]
    state.change(state.post, number, None)
    return message


def do_deliver(state, number):
    """Deliver a message."""
    at, source, to, what = take_message(state, number)
    if to == SERVER:
        come_to_server(state, source, at, what)
    else:
        come_to_client(state, to, what)
    return DONE


def do_drop(state, number):
    """Drop a message."""
    take_message(state, number)
    return DONE


def do_save(state, client, file):
    """Let a client save what is dirty of a file."""
    check_pair(state, client, file)
    rows = state.unheard[(client, file)]
    if not rows:
        raise Clean("nothing of the file is dirty")
    mark = state.leases[(client, file)][1]
    state.send(client, SERVER, ("save", file, mark, rows))
    return DONE


def do_yield(state, client, file):
    """Let a client give its lease of a file back."""
    check_pair(state, client, file)
    lease = state.leases.get((client, file))
    if lease is None:
        raise NoLease("the client has no lease of the file")
    return_lease(state, client, file, lease[1])
    return DONE


def do_fall(state, client):
    """Let a client fall."""
    check_client(state, client)
    fall_client(state, client)
    return DONE


def do_crash(state):
    """Let the server fall."""
    crash_server(state)
    return DONE


DOERS = {
    "read": do_read, "write": do_write, "ask": do_ask, "pass": do_pass, "deliver": do_deliver,
    "drop": do_drop, "save": do_save, "yield": do_yield, "fall": do_fall, "crash": do_crash,
}


def do_step(state, step):
    """Do a step, and tell its answer: what a read saw, "done" or "waits"."""
    doer = DOERS[step[0]]
    parts = step[1:]
    return doer(state, *parts)
