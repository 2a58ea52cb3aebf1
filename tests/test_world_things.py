"""At most so many things, steps one by one and together [18]."""

import copy
import unittest

from pagelend.worlds import World
from world_help import SETUP, WorldCase, answer_of, deliver_all, leased, told

REFUSED = [
    (("read", "x", "home", 0), ("NoClient", "x")), (("read", "ann", "x", 0), ("NoFile", "x")),
    (("read", "ann", "home", 2), ("NoPage", 2)), (("read", "bo", "home", 0), ("Busy", "bo")),
    (("write", "ann", "home", 0, 0), ("NoValue",)),
    (("write", "ann", "home", 0, 1000), ("NoValue",)), (("ask", "x"), ("NoClient", "x")),
    (("ask", "ann"), ("NotWaiting", "ann")), (("pass", 0), ("NoTicks",)),
    (("pass", 10 ** 6 + 1), ("NoTicks",)), (("deliver", 99), ("NoMessage", 99)),
    (("drop", 99), ("NoMessage", 99)), (("save", "ann", "log"), ("Clean",)),
    (("yield", "ann", "log"), ("NoLease",)), (("fall", "x"), ("NoClient", "x"))]


def some_world(most=300):
    """ann has a lease to write of home, and bo waits for one: 4 things."""
    world = leased("write", most=most)
    world.write("bo", "home", 0, 5)
    return world


class Most(WorldCase):
    def test_one_more_is_refused(self):
        for most in [1, 2, 7, 300]:
            world = World(SETUP, most=most)
            for _ in range(most):
                world.go_on()
            self.refused(world, ("TooMany", most), world.go_on)
            self.assertEqual(world.time(), most)

    def test_300_where_nothing_is_told(self):
        world = World(SETUP)
        for _ in range(300):
            world.go_on()
        self.refused(world, ("TooMany", 300), world.go_on)

    def test_each_kind_of_thing_counts_and_is_refused(self):
        steps = [
            ("read", "ann", "home", 0), ("read", "ann", "log", 0), ("write", "ann", "home", 1, 5),
            ("write", "cy", "log", 0, 5), ("ask", "bo"), ("pass", 1), ("deliver", 2), ("drop", 2),
            ("save", "ann", "home"), ("yield", "ann", "home"), ("fall", "ann"), ("crash",)]
        for step in steps:
            world = some_world(most=4)
            self.refused(world, ("TooMany", 4), world.do, step)
            self.refused(world, ("TooMany", 4), world.together, [step])
            world = some_world(most=5)
            world.do(step)
            self.refused(world, ("TooMany", 5), world.crash)

    def test_behind_the_other_refusals(self):
        world = some_world(most=4)
        for step, expected in REFUSED:
            self.refused(world, expected, world.do, step)
            self.refused(world, expected, world.together, [step])
            self.refused(world, expected, world.together, [("pass", 1), step])

    def test_what_is_refused_does_not_count(self):
        world = some_world(most=5)
        for step, expected in REFUSED * 3:
            self.refused(world, expected, world.do, step)
        world.go_on()
        self.refused(world, ("TooMany", 5), world.go_on)

    def test_what_is_taken_back_does_not_count(self):
        world = World(SETUP, most=2)
        for _ in range(5):
            world.go_on()
            world.go_on()
            self.refused(world, ("TooMany", 2), world.go_on)
            world.take_back()
            world.take_back()
        world.go_on()
        world.go_on()
        world.take_back()
        world.go_on()
        self.refused(world, ("TooMany", 2), world.go_on)
        self.assertEqual(world.time(), 2)

    def test_looks_do_not_count(self):
        world = World(SETUP, most=1)
        told(world)
        world.go_on()
        self.assertEqual(told(world)["time"], 1)


class Doing(WorldCase):
    def test_answers(self):
        world = World(SETUP)
        for step, answer in [
                (("read", "ann", "home", 0), "waits"), (("ask", "ann"), "done"),
                (("drop", 0), "done"), (("deliver", 1), "done"), (("deliver", 2), "done"),
                (("read", "ann", "home", 0), 0), (("write", "ann", "home", 0, 5), "waits"),
                (("deliver", 3), "done"), (("deliver", 4), "done"),
                (("write", "ann", "home", 0, 6), "done"), (("read", "ann", "home", 0), 6),
                (("save", "ann", "home"), "done"), (("yield", "ann", "home"), "done"),
                (("pass", 2), "done"), (("fall", "ann"), "done"), (("crash",), "done")]:
            self.assertEqual(world.do(step), answer, step)

    def test_a_value_seen_is_a_number(self):
        world = leased("read")
        self.assertIs(type(world.do(("read", "ann", "home", 0))), int)

    def test_as_the_methods_do(self):
        pairs = [
            (("read", "ann", "home", 1), lambda world: world.read("ann", "home", 1)),
            (("read", "ann", "log", 0), lambda world: world.read("ann", "log", 0)),
            (("write", "ann", "home", 1, 5), lambda world: world.write("ann", "home", 1, 5)),
            (("write", "cy", "home", 1, 5), lambda world: world.write("cy", "home", 1, 5)),
            (("ask", "bo"), lambda world: world.ask("bo")),
            (("pass", 3), lambda world: world.go_on(3)),
            (("pass", 1), lambda world: world.go_on()),
            (("deliver", 2), lambda world: world.deliver(2)),
            (("drop", 2), lambda world: world.drop(2)),
            (("save", "ann", "home"), lambda world: world.save("ann", "home")),
            (("yield", "ann", "home"), lambda world: world.give_back("ann", "home")),
            (("fall", "ann"), lambda world: world.fall("ann")),
            (("crash",), lambda world: world.crash())]
        for step, method in pairs:
            one, other, third = some_world(), some_world(), some_world()
            answer = one.do(step)
            said = method(other)
            self.assertEqual(third.together([step]), [answer])
            self.assertEqual(one, other)
            self.assertEqual(one, third)
            if step[0] == "read":
                self.assertEqual(said, None if answer == "waits" else answer)
            elif step[0] == "write":
                self.assertIs(said, True if answer == "done" else None)
            else:
                self.assertIsNone(said)
            for world in [one, other, third]:
                world.take_back()
                self.assertEqual(world, some_world())

    def test_refused_as_the_methods_are(self):
        methods = {"pass": "go_on", "yield": "give_back"}
        for step, expected in REFUSED:
            world = some_world()
            self.refused(world, expected, world.do, step)
            method = getattr(world, methods.get(step[0], step[0]))
            self.refused(world, expected, method, *step[1:])


class Together(WorldCase):
    STEPS = [
        ("read", "cy", "log", 0), ("pass", 1), ("write", "ann", "home", 1, 8),
        ("read", "ann", "home", 1), ("deliver", 2), ("deliver", 4)]

    def test_answers_one_for_each(self):
        world = some_world()
        answers = world.together(self.STEPS)
        self.assertEqual(answers, ["waits", "done", "done", 8, "done", "done"])
        other = some_world()
        self.assertEqual([other.do(step) for step in self.STEPS], answers)
        self.assertEqual(world, other)

    def test_as_one_thing(self):
        world = some_world(most=5)
        world.together(self.STEPS)
        self.refused(world, ("TooMany", 5), world.go_on)
        world.take_back()
        self.assertEqual(world, some_world())
        world.take_back()
        self.assertIsNone(world.waiting("bo"))

    def test_without_steps(self):
        world = some_world(most=5)
        before = told(world)
        answers = world.together([])
        self.assertEqual(answers, [])
        self.assertIs(type(answers), list)
        self.assertEqual(told(world), before)
        self.refused(world, ("TooMany", 5), world.together, [])
        world.take_back()
        self.assertEqual(told(world), before)
        self.assertEqual(world.waiting("bo"), (1, "write", "home", 0, 5))
        world.take_back()
        self.assertIsNone(world.waiting("bo"))

    def test_where_one_is_refused_nothing_was_done(self):
        for step, expected in REFUSED:
            for at in range(4):
                steps = self.STEPS[:at] + [step] + self.STEPS[at:4]
                world = some_world()
                self.refused(world, expected, world.together, steps)
                self.assertEqual(world, some_world())
                world.take_back()
                self.assertIsNone(world.waiting("bo"))

    def test_the_first_refused_is_the_one_told(self):
        world = some_world()
        self.refused(
            world, ("NoTicks",), world.together, [("pass", 1), ("pass", 0), ("drop", 99)])

    def test_a_step_may_be_refused_by_what_another_one_did(self):
        world = some_world()
        self.refused(world, ("NoMessage", 2), world.together, [("drop", 2), ("deliver", 2)])
        self.refused(
            world, ("Busy", "cy"), world.together,
            [("read", "cy", "log", 0), ("read", "cy", "log", 0)])
        self.assertEqual(world.together([("drop", 2)]), ["done"])

    def test_of_200_steps(self):
        world = World(SETUP, most=1)
        self.assertEqual(world.together([("pass", 1)] * 200), ["done"] * 200)
        self.assertEqual(world.time(), 200)
        world.take_back()
        self.assertEqual(world, World(SETUP))

    def test_300_of_200_steps(self):
        world = World(SETUP)
        steps = [("read", "ann", "home", 0), ("fall", "ann"), ("pass", 1), ("crash",)] * 50
        for _ in range(300):
            world.together(steps)
        self.assertEqual((world.time(), len(world), world.sent()), (15000, 15000, 15000))
        self.assertEqual(answer_of(world.together, steps), ("TooMany", 300))
        for _ in range(300):
            world.take_back()
        self.assertEqual(world, World(SETUP))

    def test_the_steps_are_not_changed_or_kept(self):
        world = some_world()
        steps = list(self.STEPS[:4])
        before = copy.deepcopy(steps)
        answers = world.together(steps)
        self.assertEqual(steps, before)
        after = told(world)
        steps.clear()
        answers.clear()
        self.assertEqual(told(world), after)
        world.take_back()
        self.assertEqual(world, some_world())

    def test_other_things_go_on_behind_it(self):
        world = some_world()
        world.together(self.STEPS[:4])
        deliver_all(world)
        self.assertEqual(world.lease("bo", "home"), ("write", 3, 0))
        self.assertEqual(world.held("bo", "home"), (5, 8))


if __name__ == "__main__":
    unittest.main()
