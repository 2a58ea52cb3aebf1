"""What several tests of worlds need."""

import unittest

from pagelend.errors import LendError
from pagelend.worlds import World

FILES = (("home", 2), ("log", 1))
CLIENTS = (("ann", 100, 0), ("bo", 100, 0), ("cy", 100, 0))
# A lease that is asked for at the time a is used up to a + 8, its hold ends 10
# behind the grant.
SETUP = (FILES, CLIENTS, 10, 10)


def told(world, setup=SETUP):
    """All that a world tells, in the shape of the plain model's."""
    files, clients, _, _ = setup
    everything = {
        "time": world.time(), "quiet": world.quiet(), "sent": world.sent(),
        "wire": world.wire(), "log": world.log(), "lost": world.lost()}
    for file, pages in files:
        everything[file, "values"] = [world.value(file, page) for page in range(pages)]
        everything[file, "stamps"] = [world.stamp(file, page) for page in range(pages)]
        everything[file, "queue"] = world.queue(file)
        everything[file, "holds"] = world.holds(file)
    for client, _, _ in clients:
        everything[client, "waiting"] = world.waiting(client)
        for file, _ in files:
            everything[client, file] = (
                world.lease(client, file), world.uses(client, file), world.held(client, file),
                world.dirty(client, file), world.asking(client, file),
                world.greatest(client, file))
    return everything


def answer_of(asked, *parts):
    """What comes of a call: what it tells, or the refusal's name and its field."""
    try:
        return asked(*parts)
    except LendError as refusal:
        return (type(refusal).__name__, *vars(refusal).values())


def deliver_all(world, to=None):
    """Deliver what is on the wire, and what comes of it, to all or to one."""
    while world.wire(to=to):
        world.deliver(world.wire(to=to)[0][0])


def last(world):
    """The number of the message sent last."""
    return world.sent() - 1


def sent_last(world):
    """The message sent last, without its number."""
    return world.wire()[-1][1:]


def lend(world, kind, client, file="home", page=0, value=7):
    """Let a client get a lease by a task, with all that is on the wire; tell the lease."""
    if kind == "read":
        world.read(client, file, page)
    else:
        world.write(client, file, page, value)
    deliver_all(world)
    return world.lease(client, file)


def leased(kind, client="ann", setup=SETUP, most=300):
    """A new world in which a client got a lease of home at the time 0, by a task done."""
    world = World(setup, most=most)
    lend(world, kind, client)
    return world


class WorldCase(unittest.TestCase):
    def refused(self, world, expected, asked, *parts):
        """A call is refused just so, twice, and changes nothing."""
        before = told(world)
        for _ in range(2):
            self.assertEqual(answer_of(asked, *parts), expected)
            self.assertEqual(told(world), before)

    def nothing_done(self, world, number):
        """A message is delivered, and nothing comes of it."""
        before = told(world)
        message, = [row for row in world.wire() if row[0] == number]
        world.deliver(number)
        before["wire"].remove(message)
        self.assertEqual(told(world), before)
