"""All that is told, the log, equality, and taking back [2, 16, 17]."""

import copy
import random
import unittest

from pagelend.worlds import World
from world_help import SETUP, WorldCase, answer_of, deliver_all, last, leased, lend, told

STRANGE = ["", "Ann", "anne", "server", "home ", "x" * 10000]


def busy_world(most=300):
    """A world with something of everything."""
    world = leased("write", most=most)
    world.write("ann", "home", 1, 8)
    lend(world, "read", "bo", "log")
    world.go_on(2)
    world.save("ann", "home")
    world.deliver(last(world))
    world.write("ann", "home", 0, 9)
    world.read("cy", "home", 0)
    world.deliver(last(world))
    world.write("bo", "log", 0, 3)
    world.go_on(1)
    return world


class Looks(WorldCase):
    def setUp(self):
        self.world = busy_world()

    def test_of_pages(self):
        for look in [self.world.value, self.world.stamp]:
            for name in STRANGE + ["ann"]:
                for page in [0, 9]:
                    self.refused(self.world, ("NoFile", name), look, name, page)
            for page in [-1, 2, 4, 10 ** 60, -(10 ** 60)]:
                self.refused(self.world, ("NoPage", page), look, "home", page)
            self.refused(self.world, ("NoPage", 1), look, "log", 1)

    def test_of_files(self):
        for look in [self.world.holds, self.world.queue]:
            for name in STRANGE + ["ann"]:
                self.refused(self.world, ("NoFile", name), look, name)

    def test_of_clients_and_files(self):
        world = self.world
        for look in [
                world.lease, world.uses, world.held, world.dirty, world.asking, world.greatest]:
            for name in STRANGE + ["home"]:
                self.refused(world, ("NoClient", name), look, name, "home")
                self.refused(world, ("NoClient", name), look, name, name)
            for name in STRANGE + ["ann"]:
                self.refused(world, ("NoFile", name), look, "ann", name)

    def test_of_clients(self):
        for name in STRANGE + ["home"]:
            self.refused(self.world, ("NoClient", name), self.world.waiting, name)

    def test_the_wire_to_one(self):
        whole = self.world.wire()
        self.assertEqual([row[2] for row in whole], ["ann", "ann", "server"])
        self.assertEqual(self.world.wire(to=None), whole)
        self.assertEqual(self.world.wire(to="ann"), whole[:2])
        self.assertEqual(self.world.wire(to="server"), whole[2:])
        for name in ["bo", "cy", "", "Ann", "x" * 10000]:
            self.assertEqual(self.world.wire(to=name), [])
        self.assertRaises(TypeError, self.world.wire, "ann")

    def test_the_wire_is_by_numbers(self):
        world = World(SETUP)
        for client in ["cy", "bo", "ann"]:
            world.read(client, "home", 0)
        world.deliver(0)
        world.take_back()
        self.assertEqual([row[:3] for row in world.wire()], [
            (0, "cy", "server"), (1, "bo", "server"), (2, "ann", "server")])

    def test_the_length_is_that_of_the_wire(self):
        self.assertEqual(len(self.world), 3)
        self.world.drop(last(self.world))
        self.assertEqual(len(self.world), 2)
        self.world.drop(self.world.wire()[0][0])
        self.world.drop(self.world.wire()[0][0])
        self.assertEqual(len(self.world), 0)
        self.assertEqual(self.world.sent(), 9)

    def test_what_is_told_is_the_askers_own(self):
        world = self.world
        before = told(world)
        for look in [
                lambda: world.holds("home"), lambda: world.queue("home"), world.wire,
                lambda: world.wire(to="ann"), lambda: world.dirty("ann", "home"), world.log,
                lambda: world.log(word="began"), world.lost]:
            first, second = look(), look()
            self.assertEqual(first, second)
            self.assertIsNot(first, second)
            first.append("mine")
            second.clear()
            self.assertEqual(told(world), before)

    def test_what_was_told_is_not_changed_later(self):
        world = self.world
        lists = told(world)
        before = copy.deepcopy(lists)
        deliver_all(world)
        world.go_on(100)
        deliver_all(world)
        world.fall("ann")
        self.assertEqual(lists, before)

    def test_everything_within_is_of_tuples(self):
        def plain(thing):
            if isinstance(thing, tuple):
                return all(plain(part) for part in thing)
            return thing is None or isinstance(thing, (int, str))
        for rows in [
                self.world.holds("home"), self.world.queue("home"), self.world.wire(),
                self.world.dirty("ann", "home"), self.world.log()]:
            self.assertTrue(rows)
            for row in rows:
                self.assertIs(type(row), tuple)
                self.assertTrue(plain(row))

    def test_truths_are_truths(self):
        for hold in self.world.holds("home"):
            self.assertIn(hold[5], [True, False])
            self.assertIs(type(hold[5]), bool)
        self.assertIs(self.world.uses("ann", "home"), True)
        self.assertIs(self.world.uses("cy", "home"), False)
        world = World(SETUP)
        world.read("ann", "home", 0)
        world.deliver(0)
        self.assertIs(world.wire()[0][3][4], False)
        world.deliver(1)
        world.go_on(9)
        world.read("ann", "home", 0)
        world.deliver(2)
        self.assertIs(world.wire()[0][3][4], True)


class TheLog(WorldCase):
    def setUp(self):
        self.world = busy_world()
        self.world.go_on(7)
        self.rows = self.world.log()

    def test_whole(self):
        self.assertEqual(self.rows, [
            (0, "began", 0, "ann", "home", 0, 7), (0, "wrote", 0, "ann", "home", 0, 7),
            (0, "began", 1, "ann", "home", 1, 8), (0, "wrote", 1, "ann", "home", 1, 8),
            (0, "began", 2, "bo", "log", 0, None), (0, "read", 2, "bo", "log", 0, 0),
            (2, "began", 3, "ann", "home", 0, 9), (2, "wrote", 3, "ann", "home", 0, 9),
            (2, "began", 4, "cy", "home", 0, None), (2, "began", 5, "bo", "log", 0, 3),
            (10, "lost", 3, "ann", "home", 0, 9)])

    def test_nothing_told_is_the_whole(self):
        self.assertEqual(self.world.log(word=None, client=None, since=0), self.rows)

    def test_in_parts_and_all_of_these(self):
        for word in [None, "began", "read", "wrote", "lost", "done", "", "ann", "Lost"]:
            for client in [None, "ann", "bo", "cy", "server", "", "dee", "home", "began"]:
                for since in [0, 1, 2, 3, 9, 10, 11, 10 ** 60]:
                    expected = [
                        row for row in self.rows
                        if (word is None or row[1] == word)
                        and (client is None or row[3] == client) and row[0] >= since]
                    self.assertEqual(
                        self.world.log(word=word, client=client, since=since), expected)
                    self.assertEqual(
                        self.world.log(since=since, client=client, word=word), expected)

    def test_left_out(self):
        self.assertEqual(self.world.log(word="lost"), self.rows[-1:])
        self.assertEqual(self.world.log(client="bo"), [self.rows[at] for at in [4, 5, 9]])
        self.assertEqual(self.world.log(since=2), self.rows[6:])
        self.assertEqual(self.world.log(since=3), self.rows[-1:])
        self.assertEqual(self.world.log(client="bo", since=1), [self.rows[9]])

    def test_by_names_alone(self):
        self.assertRaises(TypeError, self.world.log, "lost")


class Equality(WorldCase):
    def equal(self, one, other, expected):
        for left, right in [(one, other), (other, one)]:
            self.assertIs(left == right, expected)
            self.assertIs(left != right, not expected)

    def test_new_ones(self):
        self.equal(World(SETUP), World(SETUP), True)
        world = World(SETUP)
        self.equal(world, world, True)

    def test_the_same_done(self):
        self.equal(busy_world(), busy_world(), True)
        self.equal(busy_world(), World(SETUP), False)

    def test_whatever_their_most(self):
        self.equal(World(SETUP, most=1), World(SETUP, most=300), True)
        self.equal(busy_world(most=30), busy_world(), True)

    def test_together_or_one_by_one(self):
        one, other = World(SETUP), World(SETUP)
        one.together([("read", "ann", "home", 0), ("pass", 3)])
        other.read("ann", "home", 0)
        other.go_on(3)
        self.equal(one, other, True)

    def test_whatever_was_taken_back(self):
        one, other = busy_world(), busy_world()
        one.go_on(10 ** 6)
        self.equal(one, other, False)
        one.take_back()
        self.equal(one, other, True)
        deliver_all(one)
        deliver_all(other)
        self.equal(one, other, True)

    def test_what_is_no_world(self):
        for world in [World(SETUP), busy_world()]:
            for thing in [None, True, False, 0, 3, "", "world", [], (), SETUP, [world], (world,)]:
                self.equal(world, thing, False)

    def test_another_setup(self):
        files, clients, length, drift = SETUP
        for other in [
                (files[:1], clients, length, drift), (files, clients[:2], length, drift),
                (files, clients, 11, drift), (files, clients, length, 11),
                (files, clients[:2] + (("cy", 100, 1),), length, drift),
                (files, clients[:2] + (("cy", 101, 0),), length, drift)]:
            self.equal(World(SETUP), World(other), False)

    def test_each_part_counts(self):
        for step in [
                ("pass", 1), ("crash",), ("read", "ann", "home", 0), ("read", "ann", "log", 0),
                ("write", "ann", "home", 1, 8), ("deliver", 5), ("deliver", 7), ("deliver", 8),
                ("drop", 5), ("drop", 7), ("drop", 8), ("save", "ann", "home"),
                ("yield", "ann", "home"), ("yield", "bo", "log"), ("fall", "ann"),
                ("fall", "bo"), ("fall", "cy"), ("ask", "cy"), ("ask", "bo")]:
            world = busy_world()
            world.do(step)
            self.equal(world, busy_world(), False)

    def test_the_marks_given_so_far_count(self):
        # Of all that is told these two have the same.
        one, other = World(SETUP), World(SETUP)
        one.read("ann", "home", 0)
        one.deliver(0)
        one.drop(1)
        one.fall("ann")
        other.read("ann", "home", 0)
        other.ask("ann")
        other.drop(0)
        other.drop(1)
        other.fall("ann")
        one.crash()
        other.crash()
        self.assertEqual(told(one), told(other))
        self.equal(one, other, False)

    def test_a_drop_and_a_delivery_that_does_nothing_come_to_the_same(self):
        one, other = leased("read"), leased("read")
        for world in [one, other]:
            world.give_back("ann", "home")
            world.deliver(2)
            world.read("ann", "log", 0)
            world.deliver(3)
            world.fall("ann")
        one.drop(4)
        other.deliver(4)
        self.equal(one, other, True)


class TakingBack(WorldCase):
    def test_nothing_left(self):
        world = World(SETUP)
        self.refused(world, ("NothingLeft",), world.take_back)
        world.go_on()
        self.assertIsNone(world.take_back())
        self.refused(world, ("NothingLeft",), world.take_back)

    def test_what_is_refused_is_nothing_to_take_back(self):
        world = World(SETUP)
        for step in [("ask", "ann"), ("pass", 0), ("deliver", 0), ("read", "x", "home", 0)]:
            self.assertNotIn(answer_of(world.do, step), ["done", "waits"])
        self.refused(world, ("NothingLeft",), world.take_back)
        world.go_on()
        self.assertEqual(answer_of(world.do, ("pass", 0)), ("NoTicks",))
        world.take_back()
        self.assertEqual(world.time(), 0)

    def test_looks_are_nothing_to_take_back(self):
        world = World(SETUP)
        world.go_on()
        told(world)
        world.take_back()
        self.assertEqual(world.time(), 0)

    def test_all_steps_one_by_one(self):
        draw = random.Random(5)
        world = World(SETUP)
        states = [told(world)]
        while len(states) < 200:
            if drawn_step(draw, world) == "done":
                states.append(told(world))
        for state in reversed(states):
            self.assertEqual(told(world), state)
            answer_of(world.take_back)
        self.assertEqual(world, World(SETUP))
        self.refused(world, ("NothingLeft",), world.take_back)

    def test_others_done_instead(self):
        world, other = busy_world(), busy_world()
        world.fall("ann")
        world.crash()
        world.go_on(50)
        for _ in range(3):
            world.take_back()
        for each in [world, other]:
            each.give_back("ann", "home")
            deliver_all(each)
        self.assertEqual(told(world), told(other))
        self.assertEqual(world, other)

    def test_numbers_are_given_again(self):
        world = World(SETUP)
        world.read("ann", "home", 0)
        world.deliver(0)
        world.deliver(1)
        for _ in range(3):
            world.take_back()
        self.assertEqual((world.sent(), world.log(), world.wire()), (0, [], []))
        self.assertEqual(lend(world, "write", "bo"), ("write", 1, 0))
        self.assertEqual(world.log()[0], (0, "began", 0, "bo", "home", 0, 7))
        self.assertEqual(world.dirty("bo", "home"), [(0, 7, 1, 1)])

    def test_what_was_lost_is_not_lost_when_taken_back(self):
        world = leased("write")
        world.go_on(10)
        world.read("bo", "home", 0)
        world.deliver(last(world))
        self.assertEqual(world.lost(), [0])
        world.take_back()
        self.assertEqual(world.lost(), [])
        world.save("ann", "home")
        world.deliver(last(world))
        self.assertEqual(world.value("home", 0), 7)
        world.deliver(2)
        self.assertEqual(world.lost(), [])
        world.take_back()
        world.take_back()
        world.take_back()
        world.deliver(2)
        self.assertEqual(world.lost(), [0])


def drawn_step(draw, world):
    """Do something drawn; tell whether it was done."""
    client = draw.choice(["ann", "bo", "cy"])
    file = draw.choice(["home", "log"])
    number = draw.choice([row[0] for row in world.wire()] or [0])
    step = draw.choice(
        [("deliver", number)] * 6 + [
            ("read", client, file, 0), ("write", client, file, 0, draw.randint(1, 999)),
            ("drop", number), ("ask", client), ("pass", draw.randint(1, 9)),
            ("save", client, file), ("yield", client, file), ("fall", client), ("crash",)])
    answer = answer_of(world.do, step)
    return "refused" if isinstance(answer, tuple) else "done"


if __name__ == "__main__":
    unittest.main()
