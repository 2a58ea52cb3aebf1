"""Plans: a few tasks of some clients, and all that their runs can come to.

A run comes to what one store without copies comes to. So it is enough to go
through the orders of the tasks on such a store: in the runs told here each task
is done before the next one is begun.
"""

from pagelend.kinds import (
    GREATEST_VALUE, are_unlike, is_rising, is_tuple, is_whole, is_within)
from pagelend.worlds import World

MOST_CLIENTS = 3
MOST_OF_ONE = 3
MOST_IN_ALL = 4


def is_task(places, thing):
    """Tell whether it is a task at one of these places, pairs (file, page)."""
    if not is_tuple(thing, 3, 4):
        return False
    # A truth is equal to a number, so that places alone do not tell them apart.
    if not is_whole(thing[2]) or thing[1:3] not in places:
        return False
    if thing[0] == "write":
        return len(thing) == 4 and is_within(thing[3], 1, GREATEST_VALUE)
    return thing[0] == "read" and len(thing) == 3


def is_share(places, thing):
    """Tell whether it is a pair (client, tasks), whatever the client."""
    if not is_tuple(thing, 2, 2) or not is_tuple(thing[1], 1, MOST_OF_ONE):
        return False
    return all([is_task(places, task) for task in thing[1]])


def is_plan(setup, thing):
    """Tell of anything whether it is a plan by the setup."""
    places = [(name, page) for name, pages in setup[0] for page in range(pages)]
    if not is_tuple(thing, 1, MOST_CLIENTS) or not all([is_share(places, row) for row in thing]):
        return False
    clients = [row[0] for row in setup[1]]
    names = [row[0] for row in thing]
    if not all([name in clients for name in names]) or not is_rising(names):
        return False
    tasks = tasks_of(thing)
    written = [task[3] for task in tasks if task[0] == "write"]
    return len(tasks) <= MOST_IN_ALL and are_unlike(written)


def tasks_of(plan):
    """Tell the tasks of all clients."""
    return [task for client, tasks in plan for task in tasks]


def next_task(world, plan, client):
    """Tell the client's next task as a step of a world, None where it can not begin one.

    One who is not in the plan has no tasks, so none of them is left.
    """
    tasks = [task for name, share in plan for task in share if name == client]
    begun = len(world.log(word="began", client=client))
    if begun == len(tasks) or world.waiting(client) is not None:
        return None
    task = tasks[begun]
    return (task[0], client, *task[1:])


def world_step(world, plan, step):
    """Tell what a step of a run is as a step of a world, None where it is none now."""
    word, what = step
    if word == "next":
        return next_task(world, plan, what)
    if word == "deliver" and what in [message[0] for message in world.wire()]:
        return step
    return None


def is_done(world, plan):
    """Tell whether all tasks of the plan are done."""
    done = len(world.log(word="read")) + len(world.log(word="wrote"))
    return done == len(tasks_of(plan))


def seen_in(world, plan):
    """Tell what the reads saw, by clients."""
    return tuple([row[6] for client, tasks in plan for row in world.log(word="read", client=client)])


def comes_to(setup, plan, run):
    """Tell what a list of steps comes to, None where it is no run of the plan."""
    world = World(setup)
    for step in run:
        doing = world_step(world, plan, step)
        if doing is None:
            return None
        world.do(doing)
    return seen_in(world, plan) if is_done(world, plan) else None


def turns_of(plan):
    """Tell all orders of the clients' turns, each client as often as it has tasks."""
    orders = [()]
    for turn in range(len(tasks_of(plan))):
        orders = [
            (*order, client) for order in orders for client, tasks in plan
            if order.count(client) < len(tasks)]
    return orders


def run_by_turns(setup, plan, turns):
    """Tell what the tasks come to in this order, one by one, and a run that does so."""
    world = World(setup)
    run = []
    for client in turns:
        run.append(("next", client))
        world.do(next_task(world, plan, client))
        while world.waiting(client) is not None:
            number = world.wire()[0][0]
            run.append(("deliver", number))
            world.deliver(number)
    return (seen_in(world, plan), run)


def outcomes(setup, plan):
    """Tell all that runs of the plan come to, each with a run: (seen, run), by seen."""
    runs = {}
    for turns in turns_of(plan):
        seen, run = run_by_turns(setup, plan, turns)
        runs[seen] = run
    return [(seen, runs[seen]) for seen in sorted(runs)]
