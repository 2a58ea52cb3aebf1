"""The whole promise, over drawn runs held against the plain model [2, 3, 6 to 18]."""

import collections
import random
import unittest

from pagelend.clocks import is_safe
from pagelend.logs import first_stale, truth
from pagelend.worlds import World
from plain_model import Model, Refused
from world_help import answer_of, told

RUNS = 60
STEPS = 260


def drawn_setup(draw):
    files = sorted(draw.sample(["a", "home", "log", "server"], draw.randint(1, 3)))
    clients = sorted(draw.sample(["ann", "bo", "cy", "dee", "time"], draw.randint(1, 4)))
    rates = draw.choice([(90, 100, 120, 200), (50, 80, 100)])
    return (
        tuple((name, draw.randint(1, 4)) for name in files),
        tuple((name, draw.choice(rates), draw.randint(0, 99)) for name in clients),
        draw.choice([2, 3, 5, 8, 10, 20]), draw.choice([10, 10, 0, 50]))


def wrong_step(draw, client, file):
    return draw.choice([
        ("read", "nobody", file, 0), ("read", client, "nothing", 0), ("read", client, file, 4),
        ("write", client, file, 0, 0), ("write", client, file, 0, 1000), ("ask", "server"),
        ("pass", 0), ("pass", 10 ** 6 + 1), ("deliver", 10 ** 6), ("drop", 10 ** 6),
        ("save", client, "nothing"), ("yield", "nobody", file), ("fall", "nobody")])


def drawn_step(draw, model):
    client = draw.choice(list(model.clocks))
    file = draw.choice(list(model.pages))
    page = draw.randrange(model.pages[file])
    wire = list(model.wire)
    if wire and draw.random() < 0.45:
        return (draw.choice(["deliver"] * 9 + ["drop"]), draw.choice(wire))
    kind = draw.choices(
        "read write ask pass save yield fall crash wrong".split(), [12, 16, 6, 8, 7, 4, 2, 1, 2])
    if kind == ["wrong"]:
        return wrong_step(draw, client, file)
    ticks = draw.choice([1, 1, 1, 2, 3, model.length - 1, model.length, model.length + 1, 10 ** 6])
    value = draw.randint(1, 999)
    return {
        "read": ("read", client, file, page), "write": ("write", client, file, page, value),
        "ask": ("ask", client), "pass": ("pass", ticks), "save": ("save", client, file),
        "yield": ("yield", client, file), "fall": ("fall", client), "crash": ("crash",),
    }[kind[0]]


def model_answer(asked, *parts):
    try:
        return asked(*parts)
    except Refused as refusal:
        return (refusal.name, *refusal.fields)


class Runs(unittest.TestCase):
    def run_of(self, seed, looks):
        """Draw a run, do it with a world and the model, and look behind each thing."""
        draw = random.Random(seed)
        setup = drawn_setup(draw)
        model, world = Model(setup), World(setup)
        for at in range(STEPS):
            how = draw.random()
            if how < 0.04:
                parts = ("take_back",)
            elif how < 0.08:
                parts = ("together", [drawn_step(draw, model) for _ in range(draw.randint(0, 4))])
            else:
                parts = ("do", drawn_step(draw, model))
            name, *rest = parts
            expected = model_answer(getattr(model, name), *rest)
            self.assertEqual(answer_of(getattr(world, name), *rest), expected, (seed, at, parts))
            looks(setup, model, world, (seed, at))
        return model, world

    def test_all_that_is_told_is_as_the_model_has_it(self):
        words = collections.Counter()
        def looks(setup, model, world, where):
            self.assertEqual(told(world, setup), model.told(), where)
            self.assertEqual(len(world), len(model.wire), where)
        for seed in range(RUNS):
            model, _ = self.run_of(seed, looks)
            words.update(row[1] for row in model.log)
        for word in ["began", "read", "wrote", "lost"]:
            self.assertGreater(words[word], 100)

    def test_what_was_taken_back_was_never_done(self):
        for seed in range(100, 110):
            setup = drawn_setup(random.Random(seed))
            model, world = self.run_of(seed, lambda *parts: None)
            while model.things:
                model.take_back()
                world.take_back()
                self.assertEqual(told(world, setup), model.told())
            self.assertEqual(answer_of(world.take_back), ("NothingLeft",))
            self.assertEqual(world, World(setup))

    def test_reads_see_the_last_write_not_lost_where_clocks_are_safe(self):
        seen = [0, 0]
        def looks(setup, model, world, where):
            _, clients, length, drift = setup
            safe = all(
                is_safe((rate, ahead), length=length, drift=drift) for _, rate, ahead in clients)
            stale = first_stale(world.log())
            if safe:
                self.assertIsNone(stale, where)
                self.only_one_writes(setup, world, where)
            seen[safe] += 1
        for seed in range(200, 200 + RUNS):
            self.run_of(seed, looks)
        self.assertGreater(min(seen), STEPS)

    def only_one_writes(self, setup, world, where):
        for file, _ in setup[0]:
            users = [client for client, _, _ in setup[1] if world.uses(client, file)]
            kinds = [world.lease(client, file)[0] for client in users]
            self.assertTrue("write" not in kinds or len(kinds) == 1, where)

    def test_what_is_lost_never_comes_into_a_file(self):
        def looks(setup, model, world, where):
            writes = {(write["mark"], write["number"]): write for write in model.writes}
            for file, pages in setup[0]:
                for page in range(pages):
                    stamp = world.stamp(file, page)
                    if stamp != (0, 0):
                        task = writes[stamp]["task"]
                        self.assertEqual(task[2:], (file, page, world.value(file, page)), where)
                        self.assertNotIn(task[0], world.lost(), where)
        for seed in range(300, 320):
            self.run_of(seed, looks)

    def test_the_server_has_the_last_write_where_all_is_saved_or_lost(self):
        settled = []
        def looks(setup, model, world, where):
            if all(write["lost"] or model.saved(write) for write in model.writes):
                settled.append(len(model.writes))
                for file, pages in setup[0]:
                    for page in range(pages):
                        self.assertEqual(
                            world.value(file, page), truth(world.log(), file, page), where)
        for seed in range(400, 400 + RUNS):
            self.run_of(seed, looks)
        self.assertGreater(len([many for many in settled if many > 3]), STEPS)

    def test_stamps_never_fall(self):
        last = {}
        def looks(setup, model, world, where):
            key = (where[0], len(model.things))
            last[key] = [
                world.stamp(file, page) for file, pages in setup[0] for page in range(pages)]
            ahead = last.get((where[0], len(model.things) - 1))
            for one, other in zip(ahead or [], last[key]):
                self.assertLessEqual(one, other, where)
        for seed in range(500, 510):
            self.run_of(seed, looks)


class StaleReads(unittest.TestCase):
    """Where a clock is not safe the first read that saw something else is told."""

    def waited_out(self, rate):
        """ann has a lease to read, and bo writes when it is waited out."""
        world = World(((("home", 1),), (("ann", rate, 0), ("bo", 100, 0)), 10, 10))
        world.read("ann", "home", 0)
        world.deliver(0)
        world.deliver(1)
        world.go_on(10)
        world.write("bo", "home", 0, 5)
        world.deliver(2)
        world.deliver(3)
        self.assertEqual(world.held("bo", "home"), (5,))
        self.assertIsNone(first_stale(world.log()))
        return world

    def test_a_clock_that_is_too_slow(self):
        self.assertFalse(is_safe((50, 0), length=10, drift=10))
        world = self.waited_out(50)
        for _ in range(2):
            self.assertEqual(world.read("ann", "home", 0), 0)
            self.assertEqual(first_stale(world.log()), 2)

    def test_a_safe_clock(self):
        self.assertTrue(is_safe((90, 0), length=10, drift=10))
        world = self.waited_out(90)
        self.assertIsNone(world.read("ann", "home", 0))
        self.assertIsNone(first_stale(world.log()))


if __name__ == "__main__":
    unittest.main()
