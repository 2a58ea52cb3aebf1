"""Tasks: reads and writes, at once or waiting, and askings [7, 8]."""

import unittest

from pagelend.worlds import World
from world_help import SETUP, WorldCase, deliver_all, last, leased, lend, sent_last, told

STRANGE = ["", "Ann", "anne", "an", "server", "home ", "x" * 10000]
NO_PAGES = [-1, -2, 2, 3, 4, 10 ** 60, -(10 ** 60)]
NO_VALUES = [0, -1, 1000, 1001, 10 ** 60, -(10 ** 60)]


class Waiting(WorldCase):
    def test_a_read_waits_and_asks(self):
        world = World(SETUP)
        world.go_on(3)
        self.assertIsNone(world.read("ann", "home", 1))
        self.assertEqual(world.waiting("ann"), (0, "read", "home", 1, None))
        self.assertEqual(world.wire(), [(0, "ann", "server", ("ask", "home", "read", 0))])
        self.assertEqual(world.asking("ann", "home"), (0, 3))
        self.assertIsNone(world.asking("ann", "log"))
        self.assertIsNone(world.asking("bo", "home"))
        self.assertEqual(world.log(), [(3, "began", 0, "ann", "home", 1, None)])

    def test_a_write_waits_and_asks(self):
        world = World(SETUP)
        self.assertIsNone(world.write("bo", "log", 0, 999))
        self.assertEqual(world.waiting("bo"), (0, "write", "log", 0, 999))
        self.assertEqual(world.wire(), [(0, "bo", "server", ("ask", "log", "write", 0))])
        self.assertEqual(world.asking("bo", "log"), (0, 0))
        self.assertEqual(world.log(), [(0, "began", 0, "bo", "log", 0, 999)])
        self.assertEqual((world.held("bo", "log"), world.dirty("bo", "log")), ((), []))

    def test_tasks_are_numbered_for_all_clients_and_messages_for_all(self):
        world = World(SETUP)
        world.read("bo", "home", 0)
        world.write("ann", "log", 0, 1)
        world.read("cy", "home", 1)
        self.assertEqual([world.waiting(name)[0] for name in ["bo", "ann", "cy"]], [0, 1, 2])
        self.assertEqual([row[:2] for row in world.wire()], [(0, "bo"), (1, "ann"), (2, "cy")])
        self.assertEqual(world.sent(), 3)

    def test_a_write_waits_beside_a_lease_to_read(self):
        world = leased("read")
        self.assertTrue(world.uses("ann", "home"))
        self.assertIsNone(world.write("ann", "home", 1, 5))
        self.assertEqual(sent_last(world), ("ann", "server", ("ask", "home", "write", 1)))
        self.assertEqual(world.held("ann", "home"), (0, 0))
        self.assertEqual(world.lease("ann", "home"), ("read", 1, 0))

    def test_a_lease_of_another_file_is_of_no_use(self):
        world = leased("write")
        self.assertIsNone(world.read("ann", "log", 0))
        self.assertEqual(sent_last(world), ("ann", "server", ("ask", "log", "read", 0)))

    def test_it_asks_with_the_mark_of_a_lease_that_it_uses_no_more(self):
        world = leased("write")
        world.go_on(8)
        self.assertEqual(world.read("ann", "home", 0), 7)
        world.go_on(1)
        self.assertFalse(world.uses("ann", "home"))
        self.assertEqual(world.lease("ann", "home"), ("write", 1, 0))
        self.assertIsNone(world.read("ann", "home", 0))
        self.assertEqual(sent_last(world), ("ann", "server", ("ask", "home", "read", 1)))
        self.assertEqual(world.asking("ann", "home"), (last(world), 9))


class AskingAnew(WorldCase):
    def test_the_newer_asking_stands_in_place_of_the_elder(self):
        world = World(SETUP)
        world.write("ann", "home", 0, 5)
        world.go_on(4)
        self.assertIsNone(world.ask("ann"))
        self.assertEqual(world.asking("ann", "home"), (1, 4))
        self.assertEqual(world.wire(), [
            (0, "ann", "server", ("ask", "home", "write", 0)),
            (1, "ann", "server", ("ask", "home", "write", 0))])
        self.assertEqual(world.waiting("ann"), (0, "write", "home", 0, 5))
        self.assertEqual(len(world.log()), 1)

    def test_it_asks_with_the_mark_that_it_has_by_then(self):
        world = leased("read")
        world.write("ann", "home", 0, 5)
        world.give_back("ann", "home")
        world.ask("ann")
        self.assertEqual(sent_last(world), ("ann", "server", ("ask", "home", "write", 0)))

    def test_not_waiting(self):
        world = World(SETUP)
        self.refused(world, ("NotWaiting", "ann"), world.ask, "ann")
        world.read("bo", "home", 0)
        self.refused(world, ("NotWaiting", "ann"), world.ask, "ann")
        world.ask("bo")
        deliver_all(world)
        self.refused(world, ("NotWaiting", "bo"), world.ask, "bo")

    def test_no_client(self):
        world = World(SETUP)
        for name in STRANGE:
            self.refused(world, ("NoClient", name), world.ask, name)


class AtOnce(WorldCase):
    def test_a_read_tells_the_value_in_the_copy(self):
        world = leased("write")
        self.assertEqual(world.read("ann", "home", 0), 7)
        self.assertEqual(world.read("ann", "home", 1), 0)
        self.assertEqual(world.value("home", 0), 0)
        self.assertEqual(world.log()[-2:], [
            (0, "began", 2, "ann", "home", 1, None), (0, "read", 2, "ann", "home", 1, 0)])
        self.assertEqual(world.wire(), [])
        self.assertIsNone(world.waiting("ann"))

    def test_a_read_by_a_lease_to_read(self):
        world = leased("read")
        self.assertEqual(world.read("ann", "home", 1), 0)
        self.assertEqual(world.log()[-1], (0, "read", 1, "ann", "home", 1, 0))

    def test_a_write_makes_its_page_dirty_by_the_next_number(self):
        world = leased("write")
        self.assertEqual(world.dirty("ann", "home"), [(0, 7, 1, 1)])
        world.go_on(2)
        self.assertIs(world.write("ann", "home", 1, 999), True)
        self.assertEqual(world.held("ann", "home"), (7, 999))
        self.assertEqual(world.dirty("ann", "home"), [(0, 7, 1, 1), (1, 999, 1, 2)])
        self.assertIs(world.write("ann", "home", 0, 1), True)
        self.assertEqual(world.held("ann", "home"), (1, 999))
        self.assertEqual(world.dirty("ann", "home"), [(0, 1, 1, 3), (1, 999, 1, 2)])
        self.assertEqual(world.log()[-2:], [
            (2, "began", 2, "ann", "home", 0, 1), (2, "wrote", 2, "ann", "home", 0, 1)])
        self.assertEqual(world.wire(), [])

    def test_numbers_go_on_over_all_files_of_a_client(self):
        world = leased("write")
        lend(world, "write", "ann", "log", value=5)
        lend(world, "write", "bo", "log", value=6)
        world.write("ann", "home", 1, 8)
        self.assertEqual(world.dirty("ann", "home"), [(0, 7, 1, 1), (1, 8, 1, 3)])
        self.assertEqual(world.dirty("bo", "log"), [(0, 6, 3, 1)])

    def test_the_greatest_and_the_least_value(self):
        for value in [1, 2, 998, 999]:
            world = leased("write")
            self.assertIs(world.write("ann", "home", 1, value), True)
            self.assertEqual(world.read("ann", "home", 1), value)

    def test_the_last_time_by_the_own_clock(self):
        for rate, ahead, uses in [(100, 0, 8), (50, 0, 17), (50, 99, 16), (200, 0, 4), (95, 7, 9)]:
            setup = (SETUP[0], (("ann", rate, ahead),), 10, 10)
            world = leased("read", setup=setup)
            for _ in range(uses):
                world.go_on()
                self.assertIs(world.uses("ann", "home"), True)
                self.assertEqual(world.read("ann", "home", 0), 0)
            world.go_on()
            self.assertIs(world.uses("ann", "home"), False)
            self.assertIsNone(world.read("ann", "home", 0))

    def test_from_when_it_was_asked_for_not_from_when_it_came(self):
        world = World(SETUP)
        world.read("ann", "home", 0)
        world.go_on(5)
        deliver_all(world)
        self.assertEqual(world.lease("ann", "home"), ("read", 1, 0))
        world.go_on(3)
        self.assertTrue(world.uses("ann", "home"))
        world.go_on(1)
        self.assertFalse(world.uses("ann", "home"))


class Refused(WorldCase):
    def setUp(self):
        self.world = leased("write")

    def test_no_client_goes_first(self):
        for name in STRANGE + ["home"]:
            for file, page in [("home", 0), ("", 0), ("home", 9), ("", 9)]:
                self.refused(self.world, ("NoClient", name), self.world.read, name, file, page)
                for value in [1, 0]:
                    self.refused(
                        self.world, ("NoClient", name), self.world.write, name, file, page, value)

    def test_then_no_file(self):
        for name in STRANGE + ["ann"]:
            for page in [0, 9, -1]:
                self.refused(self.world, ("NoFile", name), self.world.read, "ann", name, page)
                for value in [1, 0]:
                    self.refused(
                        self.world, ("NoFile", name), self.world.write, "ann", name, page, value)

    def test_then_no_page(self):
        for page in NO_PAGES:
            self.refused(self.world, ("NoPage", page), self.world.read, "ann", "home", page)
            for value in [1, 0]:
                self.refused(
                    self.world, ("NoPage", page), self.world.write, "ann", "home", page, value)
        self.refused(self.world, ("NoPage", 1), self.world.read, "ann", "log", 1)

    def test_then_no_value(self):
        for value in NO_VALUES:
            self.refused(self.world, ("NoValue",), self.world.write, "ann", "home", 0, value)

    def test_busy_goes_last(self):
        world = self.world
        world.read("ann", "log", 0)
        for file, page in [("home", 0), ("home", 1), ("log", 0)]:
            self.refused(world, ("Busy", "ann"), world.read, "ann", file, page)
            self.refused(world, ("Busy", "ann"), world.write, "ann", file, page, 5)
        self.refused(world, ("NoFile", "x"), world.read, "ann", "x", 0)
        self.refused(world, ("NoPage", 2), world.write, "ann", "home", 2, 5)
        self.refused(world, ("NoValue",), world.write, "ann", "home", 0, 1000)

    def test_another_client_is_not_busy(self):
        self.world.read("ann", "log", 0)
        self.assertIsNone(self.world.read("bo", "log", 0))

    def test_what_is_refused_takes_no_number(self):
        before = told(self.world)
        for page in NO_PAGES:
            self.refused(self.world, ("NoPage", page), self.world.write, "ann", "home", page, 5)
        self.assertEqual(told(self.world), before)
        self.world.write("ann", "home", 1, 5)
        self.assertEqual(self.world.dirty("ann", "home")[1], (1, 5, 1, 2))
        self.assertEqual(self.world.log()[-1][2], 1)

    def test_no_more_busy_when_the_task_is_done(self):
        self.world.read("ann", "log", 0)
        deliver_all(self.world)
        self.assertEqual(self.world.read("ann", "log", 0), 0)


if __name__ == "__main__":
    unittest.main()
