"""Clients: messages to them, time, saving, giving back, falls [14, 15]."""

import unittest

from pagelend.worlds import World
from world_help import SETUP, WorldCase, deliver_all, last, leased, lend, sent_last, told

STRANGE = ["", "Ann", "anne", "server", "x" * 10000]


class Grants(WorldCase):
    def test_the_lease_the_copy_and_the_task(self):
        world = World(SETUP)
        world.go_on(2)
        world.write("ann", "home", 1, 5)
        world.go_on(3)
        world.deliver(0)
        world.go_on(4)
        world.deliver(1)
        self.assertEqual(world.lease("ann", "home"), ("write", 1, 2))
        self.assertEqual(world.held("ann", "home"), (0, 5))
        self.assertEqual(world.dirty("ann", "home"), [(1, 5, 1, 1)])
        self.assertIsNone(world.asking("ann", "home"))
        self.assertIsNone(world.waiting("ann"))
        self.assertEqual(world.log()[1:], [(9, "wrote", 0, "ann", "home", 1, 5)])

    def test_nothing_is_done_by_another_number(self):
        world = World(SETUP)
        world.read("ann", "home", 0)
        world.deliver(0)
        world.ask("ann")
        self.nothing_done(world, 1)
        self.assertEqual(world.asking("ann", "home"), (2, 0))

    def test_nothing_is_done_without_an_asking(self):
        world = World(SETUP)
        world.read("ann", "home", 0)
        world.deliver(0)
        world.fall("ann")
        self.nothing_done(world, 1)

    def test_of_two_askings_the_newer_one_counts(self):
        world = World(SETUP)
        world.read("ann", "home", 0)
        world.go_on(1)
        world.ask("ann")
        world.deliver(0)
        world.deliver(1)
        self.assertEqual([row[3][3] for row in world.wire()], [1, 2])
        world.deliver(3)
        self.assertEqual(world.lease("ann", "home"), ("read", 2, 1))
        self.nothing_done(world, 2)

    def test_a_grant_that_was_recalled_already(self):
        world = World(SETUP)
        world.read("ann", "home", 0)
        world.deliver(0)
        world.write("bo", "home", 0, 5)
        world.deliver(2)
        world.deliver(3)
        self.assertEqual(world.greatest("ann", "home"), 1)
        world.deliver(1)
        self.assertIsNone(world.lease("ann", "home"))
        self.assertIsNone(world.asking("ann", "home"))
        self.assertEqual(world.held("ann", "home"), ())
        self.assertEqual(world.waiting("ann"), (0, "read", "home", 0, None))
        self.assertEqual(len(world.log(client="ann")), 1)

    def test_a_grant_of_a_greater_mark_than_the_recalled_one(self):
        world = leased("read")
        world.give_back("ann", "home")
        world.read("ann", "home", 0)
        world.deliver(3)
        self.assertEqual(world.greatest("ann", "home"), 1)
        deliver_all(world)
        self.assertEqual(world.lease("ann", "home"), ("read", 2, 0))
        self.assertEqual(world.greatest("ann", "home"), 1)

    def test_a_kept_grant_behind_a_recall(self):
        # ann gives her lease back while a kept grant of it is under way.
        world = leased("read")
        world.write("ann", "home", 0, 5)
        world.deliver(2)
        self.assertEqual(sent_last(world)[2], ("grant", "home", "write", 2, True, (), 2))
        world.give_back("ann", "home")
        world.deliver(3)
        self.assertEqual(world.greatest("ann", "home"), 1)
        self.assertIsNone(world.lease("ann", "home"))
        self.assertIsNone(world.asking("ann", "home"))
        self.assertEqual(world.waiting("ann"), (1, "write", "home", 0, 5))
        self.assertEqual(world.held("ann", "home"), ())

    def test_a_kept_grant_keeps_the_copy_and_what_is_dirty(self):
        world = leased("write")
        world.go_on(9)
        world.read("ann", "home", 0)
        deliver_all(world)
        self.assertEqual(world.lease("ann", "home"), ("write", 2, 9))
        self.assertEqual(world.held("ann", "home"), (7, 0))
        self.assertEqual(world.dirty("ann", "home"), [(0, 7, 1, 1)])
        self.assertEqual(world.log()[-1], (9, "read", 1, "ann", "home", 0, 7))

    def test_another_grant_brings_values_and_nothing_is_dirty(self):
        world = leased("write")
        world.go_on(10)
        lend(world, "write", "bo", value=5)
        world.give_back("bo", "home")
        deliver_all(world)
        self.assertEqual(world.dirty("ann", "home"), [(0, 7, 1, 1)])
        world.read("ann", "home", 0)
        world.deliver(last(world))
        world.deliver(last(world))
        self.assertEqual(world.lease("ann", "home"), ("read", 3, 10))
        self.assertEqual(world.held("ann", "home"), (5, 0))
        self.assertEqual(world.dirty("ann", "home"), [])

    def test_another_file_is_left_as_it_is(self):
        world = leased("write")
        lend(world, "read", "ann", "log")
        self.assertEqual(world.dirty("ann", "home"), [(0, 7, 1, 1)])
        self.assertEqual(world.lease("ann", "home"), ("write", 1, 0))
        self.assertEqual(world.held("ann", "log"), (0,))

    def test_a_task_that_can_not_be_done_any_more_waits_on(self):
        world = World(SETUP)
        world.read("ann", "home", 0)
        world.deliver(0)
        world.go_on(9)
        world.deliver(1)
        self.assertEqual(world.lease("ann", "home"), ("read", 1, 0))
        self.assertFalse(world.uses("ann", "home"))
        self.assertEqual(world.held("ann", "home"), (0, 0))
        self.assertEqual(world.waiting("ann"), (0, "read", "home", 0, None))
        self.assertIsNone(world.asking("ann", "home"))
        world.ask("ann")
        self.assertEqual(sent_last(world)[2], ("ask", "home", "read", 1))
        deliver_all(world)
        self.assertIsNone(world.waiting("ann"))

    def test_at_the_last_time_it_is_done(self):
        world = World(SETUP)
        world.read("ann", "home", 0)
        world.deliver(0)
        world.go_on(8)
        world.deliver(1)
        self.assertIsNone(world.waiting("ann"))

    def test_a_grant_to_a_client_that_fell_and_asked_anew(self):
        world = World(SETUP)
        world.write("ann", "home", 0, 5)
        world.deliver(0)
        world.fall("ann")
        world.read("ann", "home", 0)
        self.nothing_done(world, 1)
        deliver_all(world)
        self.assertEqual(world.lease("ann", "home"), ("read", 2, 0))

    def test_each_file_has_its_own_asking_and_lease(self):
        world = leased("read")
        world.write("ann", "log", 0, 5)
        self.assertIsNone(world.asking("ann", "home"))
        self.assertEqual(world.asking("ann", "log"), (2, 0))
        deliver_all(world)
        self.assertEqual(world.lease("ann", "home"), ("read", 1, 0))
        self.assertEqual(world.lease("ann", "log"), ("write", 2, 0))


class Recalls(WorldCase):
    def recalled(self, kind="write"):
        world = leased(kind)
        world.write("bo", "home", 0, 5)
        world.deliver(last(world))
        return world

    def test_the_lease_goes_back_with_all_that_is_dirty(self):
        world = leased("write")
        world.write("ann", "home", 1, 8)
        world.read("bo", "home", 0)
        world.deliver(last(world))
        world.deliver(last(world))
        self.assertEqual(sent_last(world), (
            "ann", "server", ("back", "home", 1, ((0, 7, 1, 1), (1, 8, 1, 2)))))
        self.assertIsNone(world.lease("ann", "home"))
        self.assertFalse(world.uses("ann", "home"))
        self.assertEqual((world.held("ann", "home"), world.dirty("ann", "home")), ((), []))
        self.assertEqual(world.greatest("ann", "home"), 1)
        self.assertEqual(world.greatest("ann", "log"), 0)

    def test_without_rows(self):
        world = self.recalled("read")
        world.deliver(last(world))
        self.assertEqual(sent_last(world)[2], ("back", "home", 1, ()))

    def test_it_is_answered_without_a_lease_too(self):
        world = self.recalled("read")
        world.fall("ann")
        world.deliver(last(world))
        self.assertEqual(sent_last(world), ("ann", "server", ("back", "home", 1, ())))
        self.assertEqual(world.greatest("ann", "home"), 1)

    def test_of_a_greater_mark_than_that_of_the_lease(self):
        # The grant of mark 2 is under way, so ann has a lease of mark 1.
        world = leased("write")
        world.go_on(9)
        world.write("ann", "home", 1, 8)
        world.deliver(last(world))
        grant = last(world)
        world.read("bo", "home", 0)
        world.deliver(last(world))
        self.assertEqual(sent_last(world)[2], ("recall", "home", 2))
        world.deliver(last(world))
        self.assertEqual(sent_last(world)[2], ("back", "home", 2, ((0, 7, 1, 1),)))
        self.assertEqual(world.greatest("ann", "home"), 2)
        self.assertIsNone(world.lease("ann", "home"))
        world.deliver(grant)
        self.assertIsNone(world.lease("ann", "home"))
        self.assertEqual(world.waiting("ann"), (1, "write", "home", 1, 8))
        deliver_all(world)
        self.assertEqual(world.held("bo", "home"), (7, 0))

    def test_of_an_elder_mark_nothing_is_done(self):
        world = leased("read")
        world.write("bo", "home", 0, 5)
        world.deliver(last(world))
        recall = last(world)
        world.write("ann", "home", 0, 6)
        world.deliver(last(world))
        world.ask("bo")
        world.deliver(last(world))
        deliver = [row[0] for row in world.wire(to="ann") if row[3][0] == "grant"]
        world.deliver(deliver[0])
        self.assertEqual(world.lease("ann", "home"), ("write", 2, 0))
        self.nothing_done(world, recall)

    def test_the_asking_and_the_task_stay(self):
        world = leased("read")
        world.write("ann", "home", 0, 6)
        world.write("bo", "home", 0, 5)
        world.deliver(3)
        world.deliver(4)
        self.assertEqual(world.asking("ann", "home"), (2, 0))
        self.assertEqual(world.waiting("ann"), (1, "write", "home", 0, 6))

    def test_the_greatest_mark_never_falls_by_a_lesser_one(self):
        # A recall of mark 1 comes behind the one of mark 2.
        world = leased("read")
        world.write("bo", "home", 0, 5)
        world.deliver(last(world))
        elder = last(world)
        world.write("ann", "home", 0, 6)
        world.deliver(last(world))
        world.ask("bo")
        world.deliver(last(world))
        newer = last(world)
        self.assertEqual(sent_last(world)[2], ("recall", "home", 2))
        world.deliver(newer)
        self.assertEqual(world.greatest("ann", "home"), 2)
        world.deliver(elder)
        self.assertEqual(world.greatest("ann", "home"), 2)
        self.assertEqual(sent_last(world)[2], ("back", "home", 1, ()))

    def test_the_server_is_answered_by_what_was_never_heard_as_saved(self):
        world = leased("write")
        world.save("ann", "home")
        world.deliver(last(world))
        world.drop(last(world))
        world.give_back("ann", "home")
        self.assertEqual(sent_last(world)[2], ("back", "home", 1, ((0, 7, 1, 1),)))
        world.deliver(last(world))
        self.assertEqual((world.value("home", 0), world.wire()), (7, []))


class Saved(WorldCase):
    def test_what_is_saved_is_dirty_no_more(self):
        world = leased("write")
        world.write("ann", "home", 1, 8)
        world.save("ann", "home")
        deliver_all(world)
        self.assertEqual(world.dirty("ann", "home"), [])
        self.assertEqual(world.held("ann", "home"), (7, 8))
        self.assertEqual(world.lease("ann", "home"), ("write", 1, 0))

    def test_what_was_written_since_stays_dirty(self):
        world = leased("write")
        world.write("ann", "home", 1, 8)
        world.save("ann", "home")
        world.write("ann", "home", 0, 9)
        deliver_all(world)
        self.assertEqual(world.dirty("ann", "home"), [(0, 9, 1, 3)])

    def test_pages_of_no_row_stay_dirty(self):
        world = leased("write")
        world.save("ann", "home")
        world.write("ann", "home", 1, 8)
        deliver_all(world)
        self.assertEqual(world.dirty("ann", "home"), [(1, 8, 1, 2)])

    def test_a_newer_one_ahead_of_an_elder_one(self):
        world = leased("write")
        world.save("ann", "home")
        world.write("ann", "home", 0, 9)
        world.save("ann", "home")
        world.deliver(2)
        world.deliver(3)
        world.deliver(5)
        self.assertEqual(world.dirty("ann", "home"), [])
        self.nothing_done(world, 4)

    def test_what_was_written_by_an_elder_mark(self):
        world = leased("write")
        world.go_on(9)
        lend(world, "write", "ann", page=1, value=8)
        world.save("ann", "home")
        world.write("ann", "home", 1, 9)
        deliver_all(world)
        self.assertEqual(world.dirty("ann", "home"), [(1, 9, 2, 3)])

    def test_nothing_without_a_lease(self):
        world = leased("write")
        world.save("ann", "home")
        world.deliver(last(world))
        world.fall("ann")
        self.nothing_done(world, last(world))

    def test_another_file_stays_dirty(self):
        world = leased("write")
        lend(world, "write", "ann", "log", value=3)
        world.save("ann", "log")
        deliver_all(world)
        self.assertEqual(world.dirty("ann", "home"), [(0, 7, 1, 1)])
        self.assertEqual(world.dirty("ann", "log"), [])


class Fenced(WorldCase):
    def fenced(self):
        """ann's write is lost, and the message that her save is fenced under way."""
        world = leased("write")
        world.save("ann", "home")
        world.go_on(10)
        world.read("bo", "home", 0)
        world.deliver(last(world))
        world.deliver(2)
        self.assertEqual(sent_last(world)[2], ("fenced", "home", 1))
        return world

    def test_of_just_the_lease_all_is_gone(self):
        world = self.fenced()
        world.deliver(last(world))
        self.assertIsNone(world.lease("ann", "home"))
        self.assertEqual((world.held("ann", "home"), world.dirty("ann", "home")), ((), []))
        self.assertEqual(world.greatest("ann", "home"), 0)

    def test_the_task_and_the_asking_stay(self):
        world = self.fenced()
        fenced = last(world)
        world.read("ann", "home", 0)
        world.deliver(fenced)
        self.assertEqual(world.waiting("ann"), (2, "read", "home", 0, None))
        self.assertEqual(world.asking("ann", "home"), (fenced + 1, 10))

    def test_of_another_mark_nothing_is_done(self):
        world = self.fenced()
        fenced = last(world)
        world.read("ann", "home", 0)
        world.deliver(last(world))
        world.deliver(last(world))
        self.assertEqual(world.lease("ann", "home"), ("read", 3, 10))
        self.nothing_done(world, fenced)

    def test_nothing_without_a_lease(self):
        world = self.fenced()
        world.fall("ann")
        self.nothing_done(world, last(world))

    def test_another_file_is_left_as_it_is(self):
        world = self.fenced()
        fenced = last(world)
        world.write("ann", "log", 0, 3)
        world.deliver(last(world))
        world.deliver(last(world))
        world.deliver(fenced)
        self.assertEqual(world.dirty("ann", "log"), [(0, 3, 3, 2)])


class Time(WorldCase):
    def test_one_tick_where_nothing_is_told(self):
        world = World(SETUP)
        self.assertIsNone(world.go_on())
        self.assertEqual(world.time(), 1)

    def test_ticks(self):
        world = World(SETUP)
        for ticks, time in [(1, 1), (2, 3), (10 ** 6, 10 ** 6 + 3), (999999, 2 * 10 ** 6 + 2)]:
            world.go_on(ticks)
            self.assertEqual(world.time(), time)

    def test_no_ticks(self):
        world = leased("write")
        for ticks in [0, -1, 10 ** 6 + 1, 10 ** 60, -(10 ** 60)]:
            self.refused(world, ("NoTicks",), world.go_on, ticks)

    def test_single_ticks_and_several_at_once_come_to_the_same(self):
        worlds = []
        for ticks in [[10], [1] * 10, [9, 1], [3, 3, 4]]:
            world = leased("write")
            world.read("bo", "home", 0)
            world.deliver(last(world))
            for many in ticks:
                world.go_on(many)
            worlds.append(told(world))
        for other in worlds[1:]:
            self.assertEqual(other, worlds[0])

    def test_served_but_once_when_all_has_passed(self):
        world = leased("write")
        world.read("bo", "home", 0)
        world.deliver(last(world))
        world.go_on(10 ** 6)
        self.assertEqual(world.holds("home"), [
            ("bo", "read", 2, 2, 10 ** 6 + 10, False, 2)])
        self.assertEqual(world.log(word="lost"), [(10 ** 6, "lost", 0, "ann", "home", 0, 7)])

    def test_messages_stay_on_the_wire(self):
        world = World(SETUP)
        world.read("ann", "home", 0)
        world.go_on(10 ** 6)
        self.assertEqual(world.wire(), [(0, "ann", "server", ("ask", "home", "read", 0))])


class TheWire(WorldCase):
    def test_each_is_delivered_or_dropped_but_once(self):
        for name in ["deliver", "drop"]:
            world = World(SETUP)
            world.read("ann", "home", 0)
            getattr(world, name)(0)
            self.refused(world, ("NoMessage", 0), world.deliver, 0)
            self.refused(world, ("NoMessage", 0), world.drop, 0)

    def test_what_is_dropped_never_comes(self):
        world = World(SETUP)
        world.read("ann", "home", 0)
        self.assertIsNone(world.drop(0))
        self.assertEqual((world.wire(), len(world), world.sent()), ([], 0, 1))
        self.assertEqual((world.queue("home"), world.holds("home")), ([], []))
        self.assertEqual(world.asking("ann", "home"), (0, 0))

    def test_in_any_order(self):
        world = World(SETUP)
        for client in ["ann", "bo", "cy"]:
            world.read(client, "home", 0)
        world.deliver(2)
        world.deliver(0)
        self.assertEqual([row[0] for row in world.wire()], [1, 3, 4])

    def test_no_message(self):
        world = leased("read")
        world.read("bo", "home", 0)
        for number in [-1, 0, 1, 3, 10 ** 60, -(10 ** 60)]:
            self.refused(world, ("NoMessage", number), world.deliver, number)
            self.refused(world, ("NoMessage", number), world.drop, number)


class SavingAndGivingBack(WorldCase):
    def test_clean(self):
        world = World(SETUP)
        self.refused(world, ("Clean",), world.save, "ann", "home")
        lend(world, "read", "ann")
        self.refused(world, ("Clean",), world.save, "ann", "home")
        lend(world, "write", "ann", "log")
        self.refused(world, ("Clean",), world.save, "ann", "home")
        world.save("ann", "log")
        deliver_all(world)
        self.refused(world, ("Clean",), world.save, "ann", "log")

    def test_a_save_changes_nothing_at_the_client(self):
        world = leased("write")
        before = told(world)
        self.assertIsNone(world.save("ann", "home"))
        before["wire"] = [(2, "ann", "server", ("save", "home", 1, ((0, 7, 1, 1),)))]
        before["sent"] = 3
        self.assertEqual(told(world), before)

    def test_a_lease_not_used_any_more_is_saved_and_given_back_too(self):
        world = leased("write")
        world.go_on(100)
        world.save("ann", "home")
        world.give_back("ann", "home")
        self.assertEqual([row[3][0] for row in world.wire()], ["save", "back"])

    def test_no_lease(self):
        world = World(SETUP)
        self.refused(world, ("NoLease",), world.give_back, "ann", "home")
        world.read("ann", "home", 0)
        self.refused(world, ("NoLease",), world.give_back, "ann", "home")
        deliver_all(world)
        self.refused(world, ("NoLease",), world.give_back, "ann", "log")
        self.assertIsNone(world.give_back("ann", "home"))
        self.refused(world, ("NoLease",), world.give_back, "ann", "home")

    def test_given_back_as_recalled(self):
        given, recalled = leased("write"), leased("write")
        given.give_back("ann", "home")
        recalled.read("bo", "home", 0)
        recalled.deliver(2)
        recalled.deliver(3)
        self.assertEqual(sent_last(given), sent_last(recalled))
        self.assertEqual(told(given)["ann", "home"], told(recalled)["ann", "home"])
        self.assertEqual(told(given)["ann", "home"], (None, False, (), [], None, 1))

    def test_no_client_then_no_file(self):
        world = leased("write")
        for name in STRANGE:
            for asked in [world.save, world.give_back]:
                self.refused(world, ("NoClient", name), asked, name, "home")
                self.refused(world, ("NoClient", name), asked, name, name)
                self.refused(world, ("NoFile", name), asked, "ann", name)
                self.refused(world, ("NoFile", name), asked, "bo", name)


class FallsOfClients(WorldCase):
    def test_all_is_gone_of_every_file(self):
        world = leased("write")
        lend(world, "read", "ann", "log")
        world.give_back("ann", "log")
        world.read("ann", "log", 0)
        self.assertEqual(world.greatest("ann", "log"), 2)
        self.assertIsNone(world.fall("ann"))
        for file in ["home", "log"]:
            self.assertEqual(told(world)["ann", file], (None, False, (), [], None, 0))
        self.assertIsNone(world.waiting("ann"))

    def test_all_else_stays(self):
        world = leased("write")
        lend(world, "write", "bo", "log")
        world.read("ann", "log", 0)
        before = told(world)
        world.fall("ann")
        after = told(world)
        for key in [("ann", "waiting"), ("ann", "home"), ("ann", "log")]:
            del before[key], after[key]
        self.assertEqual(after, before)
        self.assertEqual(world.lost(), [])

    def test_its_numbers_go_on(self):
        world = leased("write")
        world.fall("ann")
        lend(world, "write", "ann", value=8)
        self.assertEqual(world.dirty("ann", "home"), [(0, 8, 2, 2)])

    def test_a_client_without_anything_falls_too(self):
        world = World(SETUP)
        world.fall("cy")
        world.take_back()
        self.assertEqual(told(world), told(World(SETUP)))

    def test_no_client(self):
        world = leased("write")
        for name in STRANGE:
            self.refused(world, ("NoClient", name), world.fall, name)

    def test_a_task_that_waited_is_never_done(self):
        world = World(SETUP)
        world.write("ann", "home", 0, 5)
        world.fall("ann")
        deliver_all(world)
        self.assertEqual(world.log(), [(0, "began", 0, "ann", "home", 0, 5)])


class FallsOfTheServer(WorldCase):
    def test_holds_to_read_and_queues_are_gone(self):
        world = leased("read")
        lend(world, "read", "bo")
        lend(world, "write", "ann", "log")
        world.write("cy", "home", 0, 5)
        world.write("bo", "log", 0, 6)
        world.deliver(6)
        world.deliver(7)
        self.assertEqual(len(world.queue("home")) + len(world.queue("log")), 2)
        world.go_on(3)
        self.assertIsNone(world.crash())
        self.assertEqual(world.holds("home"), [])
        self.assertEqual(world.holds("log"), [("ann", "write", 3, 3, 13, False, 4)])
        self.assertEqual((world.queue("home"), world.queue("log")), ([], []))
        self.assertEqual(world.quiet(), 13)

    def test_all_else_stays(self):
        world = leased("write")
        world.save("ann", "home")
        deliver_all(world)
        world.write("ann", "home", 1, 8)
        world.read("bo", "log", 0)
        before = told(world)
        world.go_on(2)
        world.crash()
        world.go_on(2)
        after = told(world)
        before.update({"time": 4, "quiet": 12})
        before["home", "holds"] = [("ann", "write", 1, 1, 12, False, 0)]
        self.assertEqual(after, before)

    def test_again_the_quiet_time_goes_on(self):
        world = World(SETUP)
        world.crash()
        self.assertEqual(world.quiet(), 10)
        world.go_on(7)
        world.crash()
        self.assertEqual(world.quiet(), 17)
        world.go_on(100)
        self.assertEqual(world.quiet(), 17)

    def test_a_save_counts_behind_it(self):
        world = leased("write")
        world.crash()
        world.save("ann", "home")
        deliver_all(world)
        self.assertEqual((world.value("home", 0), world.dirty("ann", "home")), (7, []))

    def test_clients_read_on_by_leases_that_it_forgot(self):
        world = leased("read")
        world.crash()
        self.assertEqual(world.read("ann", "home", 0), 0)
        world.go_on(9)
        world.read("ann", "home", 0)
        world.deliver(last(world))
        self.assertEqual(world.holds("home"), [("ann", "read", 2, 2, 19, False, 2)])
        self.assertEqual(sent_last(world)[2], ("grant", "home", "read", 2, False, (0, 0), 2))


if __name__ == "__main__":
    unittest.main()
