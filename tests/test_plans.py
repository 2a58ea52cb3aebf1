"""Plans, their runs, and all that they come to [22, 23]."""

import copy
import inspect
import itertools
import random
import unittest

from pagelend import plans
from pagelend.plans import comes_to, is_plan, outcomes
from pagelend.worlds import World
from things import anything

FILES = (("home", 2), ("log", 1))
CLIENTS = (("ann", 100, 0), ("bo", 100, 0), ("cy", 100, 0), ("dee", 100, 0))
SETUP = (FILES, CLIENTS, 10, 10)
# Clocks as slow and fast, and leases as short, as can be.
HARD = (FILES, (("ann", 50, 99), ("bo", 200, 0), ("cy", 200, 99)), 2, 50)
READ = ("read", "home", 0)
READ_ONE = ("read", "home", 1)
READ_LOG = ("read", "log", 0)


def write(value, file="home", page=0):
    return ("write", file, page, value)


def shares(*counts):
    """A plan of so many tasks of each client."""
    names = [row[0] for row in CLIENTS]
    return tuple((name, (READ,) * many) for name, many in zip(names, counts))


def alone(*tasks):
    """A plan of one client."""
    return (("ann", tasks),)


def plainly(setup, thing):
    """Whether it is a plan, by the sentence itself, one part behind the other."""
    pages = dict(setup[0])
    clients = [row[0] for row in setup[1]]
    if type(thing) is not tuple or len(thing) not in (1, 2, 3):
        return False
    values, names, many = [], [], 0
    for share in thing:
        if type(share) is not tuple or len(share) != 2:
            return False
        client, tasks = share
        if type(client) is not str or client not in clients:
            return False
        names.append(client)
        if type(tasks) is not tuple or len(tasks) not in (1, 2, 3):
            return False
        for task in tasks:
            many += 1
            if type(task) is not tuple or len(task) not in (3, 4):
                return False
            if [type(part) for part in task[:3]] != [str, str, int]:
                return False
            if task[0] != {3: "read", 4: "write"}[len(task)]:
                return False
            if task[1] not in pages or task[2] not in range(pages[task[1]]):
                return False
            if len(task) == 4:
                if type(task[3]) is not int or task[3] not in range(1, 1000):
                    return False
                values.append(task[3])
    rising = all(one < other for one, other in zip(names, names[1:]))
    return rising and many <= 4 and len(values) == len(set(values))


def with_part(thing, path, part):
    """The same tuples within one another, with another part at one place."""
    if not path:
        return part
    at = path[0]
    return (*thing[:at], with_part(thing[at], path[1:], part), *thing[at + 1:])


def paths(thing):
    """The places of all parts, the whole too."""
    found = [()]
    if isinstance(thing, tuple):
        for at, part in enumerate(thing):
            found += [(at, *path) for path in paths(part)]
    return found


def store_seen(plan):
    """What tasks come to on one store without copies, in any order that keeps each client's."""
    found = set()
    turns = [client for client, tasks in plan for _ in tasks]
    for order in set(itertools.permutations(turns)):
        left = {client: list(tasks) for client, tasks in plan}
        values, seen = {}, {client: [] for client in left}
        for client in order:
            task = left[client].pop(0)
            if task[0] == "write":
                values[task[1:3]] = task[3]
            else:
                seen[client].append(values.get(task[1:3], 0))
        found.add(tuple(value for client, _ in plan for value in seen[client]))
    return sorted(found)


class Runs:
    """All runs of a plan, gone through step by step with one world."""

    def __init__(self, setup, plan):
        self.plan = plan
        self.world = World(setup)
        self.known = set()
        self.found = {}
        self.go([])

    def steps(self):
        """The steps that a run may go on with."""
        for client, tasks in self.plan:
            begun = len(self.world.log(word="began", client=client))
            if begun < len(tasks) and self.world.waiting(client) is None:
                task = tasks[begun]
                yield ("next", client), (task[0], client, *task[1:])
        for message in self.world.wire():
            yield ("deliver", message[0]), ("deliver", message[0])

    def stands(self):
        """All that what comes next hangs on, and what was seen so far."""
        world = self.world
        clients = [client for client, _ in self.plan]
        served = [(world.holds(file), world.queue(file)) for file, _ in FILES]
        kept = [(world.lease(client, file), world.held(client, file), world.dirty(client, file),
                 world.asking(client, file), world.greatest(client, file))
                for client in clients for file, _ in FILES]
        done = [(world.waiting(client), world.log(client=client)) for client in clients]
        values = [(world.value(file, page), world.stamp(file, page))
                  for file, pages in FILES for page in range(pages)]
        return repr((world.wire(), served, kept, done, values, world.sent()))

    def go(self, run):
        stands = self.stands()
        if stands in self.known:
            return
        self.known.add(stands)
        done = self.world.log(word="read") + self.world.log(word="wrote")
        if len(done) == sum(len(tasks) for _, tasks in self.plan):
            seen = [row[6] for client, _ in self.plan
                    for row in self.world.log(word="read", client=client)]
            self.found.setdefault(tuple(seen), run)
        for step, doing in list(self.steps()):
            self.world.do(doing)
            self.go([*run, step])
            self.world.take_back()


def draw_plan(rng, setup):
    """Some plan of a setup."""
    names = sorted(rng.sample([row[0] for row in setup[1]], rng.randint(1, 3)))
    counts = [1] * len(names)
    for _ in range(4 - len(names)):
        counts[rng.randrange(len(names))] += rng.randrange(2)
    values = rng.sample(range(1, 1000), 4)
    plan = []
    for name, many in zip(names, counts):
        tasks = []
        for _ in range(min(many, 3)):
            file, pages = rng.choice(setup[0])
            page = rng.randrange(pages)
            tasks.append(rng.choice([("read", file, page), write(values.pop(), file, page)]))
        plan.append((name, tuple(tasks)))
    return tuple(plan)


class IsPlan(unittest.TestCase):
    def told(self, thing, expected, setup=SETUP):
        before = copy.deepcopy(thing)
        self.assertIs(is_plan(setup, thing), expected, thing)
        self.assertEqual(thing, before)
        self.assertIs(is_plan(setup, thing), expected, thing)

    def test_ordinary_ones(self):
        self.told((("ann", (READ,)),), True)
        self.told((("ann", (write(5), READ_LOG)), ("bo", (READ, write(6, "log")))), True)
        self.told((("bo", (READ_ONE,)), ("dee", (write(999, page=1),))), True)

    def test_one_to_three_clients(self):
        for many in range(5):
            self.told(shares(*[1] * many), 1 <= many <= 3)

    def test_one_to_three_tasks_of_a_client(self):
        for many in range(6):
            self.told(shares(many), 1 <= many <= 3)
            self.told(shares(1, many), 1 <= many <= 3)
            self.told(shares(many, 1), 1 <= many <= 3)

    def test_at_most_four_tasks_in_all(self):
        for counts in itertools.product([1, 2, 3], repeat=2):
            self.told(shares(*counts), sum(counts) <= 4)
        for counts in itertools.product([1, 2, 3], repeat=3):
            self.told(shares(*counts), sum(counts) <= 4)

    def test_clients_rising(self):
        for names in itertools.product(["ann", "bo", "cy", "dee"], repeat=2):
            self.told(tuple((name, (READ,)) for name in names), names[0] < names[1])
        for names in itertools.product(["ann", "bo", "cy"], repeat=3):
            expected = names == ("ann", "bo", "cy")
            self.told(tuple((name, (READ,)) for name in names), expected)

    def test_clients_of_the_setup(self):
        for name in ["zed", "server", "", "an", "anna", "Ann", "home", "ann ", "abcdefghi"]:
            self.told(((name, (READ,)),), False)
        one = (FILES, CLIENTS[1:2], 10, 10)
        self.told((("bo", (READ,)),), True, one)
        self.told((("ann", (READ,)),), False, one)
        self.told((("bo", (READ,)), ("cy", (READ,))), False, one)

    def test_files_and_pages_of_the_setup(self):
        files = (("a", 1), ("b", 4), ("c", 3))
        setup = (files, CLIENTS, 10, 10)
        for file, pages in [*files, ("d", 0), ("", 0), ("ann", 0), ("ab", 0)]:
            for page in [-1, 0, 1, 2, 3, 4, 5, 10 ** 60, -(10 ** 60)]:
                self.told(alone(("read", file, page)), 0 <= page < pages, setup)
                self.told(alone(("write", file, page, 1)), 0 <= page < pages, setup)

    def test_a_truth_is_no_page_and_no_value(self):
        self.told(alone(("read", "home", True)), False)
        self.told(alone(("read", "home", False)), False)
        self.told(alone(("write", "home", False, 7)), False)
        self.told(alone(("write", "home", 0, True)), False)

    def test_written_values(self):
        for value in [1, 2, 500, 998, 999]:
            self.told(alone(write(value)), True)
        for value in [0, -1, 1000, 10 ** 60, "7", "", None, (7,), [7], ()]:
            self.told(alone(write(value)), False)
            self.told((("ann", (READ,)), ("bo", (READ, write(value)))), False)

    def test_written_values_are_unlike(self):
        for one in [write(5), write(5, page=1), write(5, "log")]:
            for other in [write(5), write(5, page=1), write(5, "log")]:
                self.told(alone(one, other), False)
                self.told(alone(one, READ, other), False)
                self.told((("ann", (one,)), ("bo", (other,))), False)
                self.told((("ann", (one,)), ("bo", (READ,)), ("cy", (READ, other))), False)
        self.told((("ann", (write(5), write(6))), ("bo", (write(7), write(8)))), True)

    def test_kinds_and_their_parts(self):
        self.told(alone(("read", "home", 0, 5)), False)
        self.told(alone(("read", "home", 0, None)), False)
        self.told(alone(("read", "home")), False)
        self.told(alone(("write", "home", 0)), False)
        self.told(alone(("write", "home", 0, 5, 5)), False)
        for kind in ["", "Read", "reads", "wrote", "lost", "next", None, 0, ("read",)]:
            self.told(alone((kind, "home", 0)), False)
            self.told(alone((kind, "home", 0, 5)), False)

    def test_tuples_alone(self):
        self.told([("ann", (READ,))], False)
        self.told((["ann", (READ,)],), False)
        self.told((("ann", [READ]),), False)
        self.told((("ann", (list(READ),)),), False)
        self.told(("ann", (READ,)), False)
        self.told((("ann", READ),), False)
        self.told((("ann", (READ,), ()),), False)
        self.told((("ann",),), False)

    def test_of_anything(self):
        for thing in [*anything(), (), ((),), ("ann",), SETUP, FILES, CLIENTS, READ, (READ,)]:
            self.told(thing, False)

    def test_of_anything_at_each_place(self):
        plan = (("ann", (write(5), READ)), ("bo", (write(6, "log"),)))
        things = [*anything(), ["ann"], "bo", "cy", "home", "log", "write", 5, 6, 999, 1000, 3]
        for path in paths(plan):
            for thing in things:
                spoilt = with_part(plan, path, thing)
                self.assertIs(is_plan(SETUP, spoilt), plainly(SETUP, spoilt), spoilt)

    def test_drawn_ones(self):
        rng = random.Random(22)
        for _ in range(300):
            plan = draw_plan(rng, SETUP)
            self.told(plan, True)
            self.assertTrue(plainly(SETUP, plan))


class Outcomes(unittest.TestCase):
    def told(self, plan, expected, setup=SETUP):
        """Just these are seen, each with a run that comes to it."""
        before = copy.deepcopy(plan)
        rows = outcomes(setup, plan)
        self.assertIs(type(rows), list)
        self.assertEqual([seen for seen, _ in rows], expected, plan)
        for row in rows:
            self.assertEqual((type(row), len(row)), (tuple, 2))
            self.is_run(setup, plan, row[1], row[0])
            self.assertEqual(comes_to(setup, plan, row[1]), row[0])
        self.assertEqual(outcomes(setup, plan), rows)
        self.assertEqual(plan, before)

    def is_run(self, setup, plan, run, seen):
        """It is a run, by the sentence itself, and comes to what is told."""
        self.assertIs(type(run), list)
        world = World(setup)
        left = {client: list(tasks) for client, tasks in plan}
        for step in run:
            self.assertIs(type(step), tuple)
            word, what = step
            if word == "next":
                self.assertIsNone(world.waiting(what))
                task = left[what].pop(0)
                world.do((task[0], what, *task[1:]))
            else:
                self.assertEqual(word, "deliver")
                self.assertIs(type(what), int)
                self.assertIn(what, [message[0] for message in world.wire()])
                world.deliver(what)
        for client, tasks in plan:
            self.assertEqual(left[client], [])
            self.assertIsNone(world.waiting(client))
        rows = [row for client, _ in plan for row in world.log(word="read", client=client)]
        self.assertEqual(tuple(row[6] for row in rows), seen)

    def test_one_client(self):
        self.told(alone(READ), [(0,)])
        self.told(alone(write(5)), [()])
        self.told(alone(write(5), READ), [(5,)])
        self.told(alone(READ, write(5)), [(0,)])
        self.told(alone(READ, write(5), READ), [(0, 5)])
        self.told(alone(write(5), READ_ONE, READ_LOG), [(0, 0)])
        self.told(alone(write(5), write(6), READ), [(6,)])

    def test_without_reads(self):
        plan = (("ann", (write(5), write(6))), ("bo", (write(7),)), ("cy", (write(8),)))
        self.told(plan, [()])

    def test_a_write_ahead_of_a_read_or_behind(self):
        self.told((("ann", (write(5),)), ("bo", (READ,))), [(0,), (5,)])
        self.told((("ann", (READ,)), ("bo", (write(5),))), [(0,), (5,)])
        self.told((("ann", (write(5),)), ("bo", (READ_ONE,))), [(0,)])
        self.told((("ann", (write(5),)), ("bo", (READ_LOG,))), [(0,)])

    def test_a_page_does_not_go_back(self):
        plan = (("ann", (write(6), write(5))), ("bo", (READ, READ)))
        self.told(plan, [(0, 0), (0, 5), (0, 6), (5, 5), (6, 5), (6, 6)])

    def test_two_pages_or_two_files(self):
        for other in [("home", 1), ("log", 0)]:
            file, page = other
            plan = (("ann", (write(1), ("read", *other))), ("bo", (write(2, file, page), READ)))
            self.told(plan, [(0, 1), (2, 0), (2, 1)])
            plan = (("ann", (write(1), write(2, file, page))), ("bo", (("read", *other), READ)))
            self.told(plan, [(0, 0), (0, 1), (2, 1)])
            plan = (("ann", (READ, write(2, file, page))), ("bo", (("read", *other), write(1))))
            self.told(plan, [(0, 0), (0, 2), (1, 0)])

    def test_seen_by_clients_whoever_was_first(self):
        plan = (("ann", (READ,)), ("bo", (write(5), READ_LOG)), ("cy", (READ,)))
        self.told(plan, [(0, 0, 0), (0, 0, 5), (5, 0, 0), (5, 0, 5)])

    def test_three_clients(self):
        plan = (("ann", (write(7),)), ("bo", (write(3),)), ("dee", (READ, READ)))
        expected = [(0, 0), (0, 3), (0, 7), (3, 3), (3, 7), (7, 3), (7, 7)]
        self.told(plan, expected)

    def test_rising_by_numbers(self):
        plan = (("ann", (write(9),)), ("bo", (write(10),)), ("cy", (write(100),)), ("dee", (READ,)))
        self.told((plan[0], plan[1], plan[3]), [(0,), (9,), (10,)])
        self.told((plan[1], plan[2], plan[3]), [(0,), (10,), (100,)])

    def test_each_seen_once_where_orders_see_the_same(self):
        self.told(shares(2, 1, 1), [(0, 0, 0, 0)])
        self.told((("ann", (READ, READ)), ("bo", (write(5), write(6, "log")))), [
            (0, 0), (0, 5), (5, 5)])

    def test_clocks_and_lengths_at_their_ends(self):
        plan = (("ann", (write(6), write(5))), ("bo", (READ, READ)))
        self.told(plan, [(0, 0), (0, 5), (0, 6), (5, 5), (6, 5), (6, 6)], HARD)
        long = (FILES, (("ann", 200, 99), ("bo", 50, 0)), 1000, 0)
        self.told(plan, [(0, 0), (0, 5), (0, 6), (5, 5), (6, 5), (6, 6)], long)

    def test_drawn_plans_against_a_store(self):
        rng = random.Random(23)
        for _ in range(400):
            setup = rng.choice([SETUP, HARD])
            plan = draw_plan(rng, setup)
            self.told(plan, store_seen(plan), setup)

    def test_lists_told_are_the_askers_own(self):
        plan = (("ann", (write(5),)), ("bo", (READ,)))
        first = outcomes(SETUP, plan)
        before = copy.deepcopy(first)
        second = outcomes(SETUP, plan)
        second[0][1].clear()
        second[1][1].append(("next", "ann"))
        second.reverse()
        self.assertEqual(first, before)
        self.assertEqual(outcomes(SETUP, plan), before)
        self.assertEqual(len({id(run) for _, run in first}), len(first))


class AllRuns(unittest.TestCase):
    """What all runs come to, gone through one by one, is what a store comes to."""

    def just(self, plan, setup=SETUP):
        runs = Runs(setup, plan).found
        self.assertEqual(sorted(runs), store_seen(plan), plan)
        self.assertEqual(sorted(runs), [seen for seen, _ in outcomes(setup, plan)])
        for seen in runs:
            self.assertEqual(comes_to(setup, plan, runs[seen]), seen)

    def test_one_page(self):
        self.just((("ann", (write(5),)), ("bo", (READ, READ))))
        self.just((("ann", (READ, write(5))), ("bo", (READ,))))
        self.just((("ann", (write(5), READ)), ("bo", (write(6),))))
        self.just((("ann", (write(5),)), ("bo", (READ,)), ("cy", (READ,))))
        self.just((("ann", (write(5), READ)), ("bo", (write(6), READ))))

    def test_two_pages(self):
        self.just((("ann", (write(5), READ_ONE)), ("bo", (write(6, page=1), READ))))

    def test_two_files(self):
        self.just((("ann", (write(5), READ_LOG)), ("bo", (write(6, "log"), READ))))

    def test_clocks_and_lengths_at_their_ends(self):
        self.just((("ann", (write(5), READ)), ("bo", (READ, write(6)))), HARD)


PLAN = (("ann", (write(5),)), ("bo", (READ,)))
# ann writes, then bo reads, for which ann's lease is recalled.
RUN = [
    ("next", "ann"), ("deliver", 0), ("deliver", 1), ("next", "bo"), ("deliver", 2),
    ("deliver", 3), ("deliver", 4), ("deliver", 5)]


class ComesTo(unittest.TestCase):
    def told(self, plan, run, expected, setup=SETUP):
        before = copy.deepcopy(run)
        for _ in range(2):
            seen = comes_to(setup, plan, run)
            self.assertEqual(seen, expected, run)
            self.assertIs(type(seen), type(expected))
            self.assertEqual(run, before)

    def test_a_run(self):
        self.told(PLAN, RUN, (5,))

    def test_other_orders_of_the_same_tasks(self):
        self.told(PLAN, [
            ("next", "bo"), ("next", "ann"), ("deliver", 0), ("deliver", 2), ("deliver", 1),
            ("deliver", 3), ("deliver", 4), ("deliver", 5)], (0,))
        self.told(PLAN, [
            ("next", "bo"), ("next", "ann"), ("deliver", 1), ("deliver", 2), ("deliver", 0),
            ("deliver", 3), ("deliver", 4), ("deliver", 5)], (5,))

    def test_every_part_of_a_run_is_none(self):
        for many in range(len(RUN)):
            self.told(PLAN, RUN[:many], None)
        for at in range(len(RUN)):
            self.told(PLAN, RUN[:at] + RUN[at + 1:], None)
            self.told(PLAN, RUN[:at] + RUN[at:at + 1] + RUN[at:], None)

    def test_no_steps_are_no_run(self):
        self.told(PLAN, [], None)
        self.told(alone(READ), [], None)

    def test_tasks_that_wait_beside_one_another(self):
        run = [("next", "ann"), ("deliver", 0), ("next", "bo"), ("deliver", 2)]
        self.told((("ann", (READ,)), ("bo", (READ, READ_ONE))), [
            *run, ("deliver", 3), ("next", "bo"), ("deliver", 1)], (0, 0, 0))
        plan = (("ann", (READ,)), ("bo", (write(5),)), ("cy", (READ_LOG,)))
        run = [
            ("next", "ann"), ("deliver", 0), ("deliver", 1), ("next", "cy"), ("next", "bo"),
            ("deliver", 3), ("deliver", 4), ("deliver", 2), ("deliver", 6), ("deliver", 5),
            ("deliver", 7)]
        self.told(plan, run, (0, 0))
        self.told(plan, run[:-1], None)

    def test_a_lease_is_used_until_the_recall_comes(self):
        plan = (("ann", (READ, READ)), ("bo", (write(5),)))
        run = [("next", "ann"), ("deliver", 0), ("deliver", 1), ("next", "bo"), ("deliver", 2)]
        self.told(plan, [
            *run, ("next", "ann"), ("deliver", 3), ("deliver", 4), ("deliver", 5)], (0, 0))
        behind = [*run, ("deliver", 3), ("deliver", 4), ("deliver", 5), ("next", "ann")]
        self.told(plan, behind, None)
        self.told(plan, [
            *behind, ("deliver", 6), ("deliver", 7), ("deliver", 8), ("deliver", 9)], (0, 5))

    def test_seen_by_clients_and_in_order(self):
        plan = (("ann", (READ, READ_LOG)), ("bo", (write(5), READ)))
        run = [
            ("next", "bo"), ("deliver", 0), ("deliver", 1), ("next", "bo"), ("next", "ann"),
            ("deliver", 2), ("deliver", 3), ("deliver", 4), ("deliver", 5), ("next", "ann"),
            ("deliver", 6), ("deliver", 7)]
        self.told(plan, run, (5, 0, 5))

    def test_without_reads(self):
        self.told(alone(write(5)), [("next", "ann"), ("deliver", 0), ("deliver", 1)], ())
        self.told(alone(write(5)), [("next", "ann"), ("deliver", 0)], None)

    def test_next_where_a_task_waits(self):
        plan = alone(READ, READ)
        self.told(plan, [("next", "ann"), ("next", "ann"), ("deliver", 0), ("deliver", 1)], None)
        self.told(plan, [("next", "ann"), ("deliver", 0), ("deliver", 1), ("next", "ann")], (0, 0))

    def test_next_where_none_is_left(self):
        run = [("next", "ann"), ("deliver", 0), ("deliver", 1)]
        self.told(alone(READ), run, (0,))
        self.told(alone(READ), [*run, ("next", "ann")], None)
        self.told(PLAN, [*RUN, ("next", "ann")], None)
        self.told(PLAN, [*RUN, ("next", "bo")], None)

    def test_next_of_one_who_is_not_in_the_plan(self):
        for what in ["cy", "dee", "zed", "server", "", "next", 0, 1, -1, 10 ** 60]:
            self.told(PLAN, [("next", what), *RUN], None)
            self.told(PLAN, [*RUN, ("next", what)], None)

    def test_deliver_of_what_is_not_on_the_wire(self):
        for what in [0, 1, 5, 6, 7, -1, 10 ** 60 - 1, -(10 ** 60), "0", "ann", ""]:
            self.told(PLAN, [*RUN, ("deliver", what)], None)
            self.told(PLAN, [("deliver", what), *RUN], None)

    def test_steps_that_a_run_does_not_have(self):
        for step in [
                ("drop", 2), ("ask", "ann"), ("pass", 1), ("fall", "cy"), ("", ""), ("next ", "bo"),
                ("crash", 0), ("Next", "ann"), ("Deliver", 0), ("bo", "next"), ("read", "ann")]:
            for at in range(len(RUN) + 1):
                self.told(PLAN, [*RUN[:at], step, *RUN[at:]], None)

    def test_words_exchanged(self):
        for word in ["", "Next", "next ", "Deliver", "drop", "ask", "pass", "read", "ann", "x"]:
            for at, (_, what) in enumerate(RUN):
                self.told(PLAN, [*RUN[:at], (word, what), *RUN[at + 1:]], None)
        for at, (word, what) in enumerate(RUN):
            other = "deliver" if word == "next" else "next"
            self.told(PLAN, [*RUN[:at], (other, what), *RUN[at + 1:]], None)

    def test_a_task_that_never_gets_done(self):
        # The recall of ann's new lease comes ahead of its grant, which then counts no more.
        run = [
            ("next", "ann"), ("deliver", 0), ("next", "bo"), ("deliver", 2), ("deliver", 3),
            ("deliver", 4), ("deliver", 5)]
        self.told((("ann", (READ,)), ("bo", (write(5),))), run, None)
        world = World(SETUP)
        world.read("ann", "home", 0)
        world.deliver(0)
        world.write("bo", "home", 0, 5)
        for number in [2, 3, 4, 5, 1]:
            world.deliver(number)
        self.assertEqual(world.wire(), [])
        self.assertIsNotNone(world.waiting("ann"))
        self.told((("ann", (READ,)), ("bo", (write(5),))), [*run, ("deliver", 1)], None)

    def test_of_another_plan(self):
        self.told(alone(write(5)), RUN, None)
        self.told((("ann", (write(5),)), ("bo", (READ, READ))), RUN, None)
        self.told((("ann", (write(5),)), ("bo", (READ,)), ("cy", (READ,))), RUN, None)
        self.told((("ann", (write(7),)), ("bo", (READ,))), RUN, (7,))
        self.told((("ann", (write(7, page=1),)), ("bo", (READ,))), RUN, (0,))

    def test_the_most_steps(self):
        self.told(PLAN, [("next", "ann")] * 1100, None)
        self.told(PLAN, [*RUN, *[("deliver", 5)] * 1092], None)
        self.told(PLAN, [("deliver", 0)] * 1100, None)

    def test_with_other_setups(self):
        self.told(PLAN, RUN, (5,), HARD)


class Interface(unittest.TestCase):
    def test_the_functions(self):
        for name, parts in [
                ("is_plan", "(setup, thing)"), ("outcomes", "(setup, plan)"),
                ("comes_to", "(setup, plan, run)")]:
            function = getattr(plans, name)
            self.assertEqual(str(inspect.signature(function)), parts)
            self.assertEqual(function.__module__, "pagelend.plans")

    def test_by_their_names(self):
        self.assertIs(is_plan(thing=PLAN, setup=SETUP), True)
        self.assertEqual(outcomes(plan=PLAN, setup=SETUP), outcomes(SETUP, PLAN))
        self.assertEqual(comes_to(run=RUN, plan=PLAN, setup=SETUP), (5,))


if __name__ == "__main__":
    unittest.main()
