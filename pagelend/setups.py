"""Setups: the files, clients, length and drift that a world is made of."""

from pagelend.errors import NoSetup
from pagelend.kinds import is_name, is_rising, is_tuple, is_within

LENGTH = 20
DRIFT = 10
MOST = 300

# A message is from or to this name, so no client may have it.
SERVER = "server"


def is_file(thing):
    """Tell whether it is a pair (name, pages)."""
    if not is_tuple(thing, 2, 2):
        return False
    name, pages = thing
    return is_name(name) and is_within(pages, 1, 4)


def is_client(thing):
    """Tell whether it is a triple (name, rate, ahead)."""
    if not is_tuple(thing, 3, 3):
        return False
    name, rate, ahead = thing
    if not is_name(name) or name == SERVER:
        return False
    return is_within(rate, 50, 200) and is_within(ahead, 0, 99)


def are_files(thing):
    """Tell whether it is a setup's tuple of files."""
    if not is_tuple(thing, 1, 3) or not all([is_file(row) for row in thing]):
        return False
    return is_rising([row[0] for row in thing])


def are_clients(thing):
    """Tell whether it is a setup's tuple of clients."""
    if not is_tuple(thing, 1, 4) or not all([is_client(row) for row in thing]):
        return False
    return is_rising([row[0] for row in thing])


def is_setup(thing):
    """Tell of anything whether it is a setup."""
    if not is_tuple(thing, 4, 4):
        return False
    files, clients, length, drift = thing
    if not are_files(files) or not are_clients(clients):
        return False
    return is_within(length, 2, 1000) and is_within(drift, 0, 50)


def made(files, clients, *, length=LENGTH, drift=DRIFT):
    """Make a setup; NoSetup, of anything, where that is none."""
    setup = (files, clients, length, drift)
    if not is_setup(setup):
        raise NoSetup("files, clients, length and drift make no setup")
    return setup
