"""The server: holds, the queue, serving and granting [9, 10, 11]."""

import unittest

from pagelend.worlds import World
from world_help import SETUP, WorldCase, deliver_all, last, leased, lend, sent_last


def marks(world, file="home"):
    """The holds of a file, as (client, kind, low, mark)."""
    return [hold[:4] for hold in world.holds(file)]


class TheQueue(WorldCase):
    def blocked(self):
        """A world in which ann has a lease to write, so that all others stay."""
        return leased("write")

    def test_an_ask_goes_to_the_end(self):
        world = self.blocked()
        world.read("cy", "home", 0)
        world.write("bo", "home", 0, 5)
        world.deliver(2)
        world.deliver(3)
        self.assertEqual(world.queue("home"), [("cy", "read", 2, 0), ("bo", "write", 3, 0)])
        self.assertEqual(world.queue("log"), [])

    def test_in_the_order_of_delivery(self):
        world = self.blocked()
        world.read("cy", "home", 0)
        world.write("bo", "home", 0, 5)
        world.deliver(3)
        world.deliver(2)
        self.assertEqual(world.queue("home"), [("bo", "write", 3, 0), ("cy", "read", 2, 0)])

    def test_a_newer_one_goes_to_the_end_and_the_elder_leaves(self):
        world = self.blocked()
        world.read("cy", "home", 0)
        world.deliver(last(world))
        world.read("bo", "home", 0)
        world.deliver(last(world))
        world.ask("cy")
        newer = last(world)
        world.deliver(newer)
        self.assertEqual([row[0] for row in world.queue("home")], ["bo", "cy"])
        self.assertEqual(world.queue("home")[1], ("cy", "read", newer, 0))

    def test_an_elder_one_behind_a_newer_one_is_passed_over(self):
        world = self.blocked()
        world.read("cy", "home", 0)
        elder = last(world)
        world.ask("cy")
        newer = last(world)
        world.deliver(newer)
        queue = world.queue("home")
        self.assertEqual(queue, [("cy", "read", newer, 0)])
        self.nothing_done(world, elder)
        self.assertEqual(world.queue("home"), queue)

    def test_an_elder_one_behind_a_hold_of_a_newer_one_is_passed_over(self):
        world = World(SETUP)
        world.read("ann", "home", 0)
        world.ask("ann")
        world.deliver(1)
        self.assertEqual(world.holds("home"), [("ann", "read", 1, 1, 10, False, 1)])
        self.nothing_done(world, 0)

    def test_a_newer_one_behind_a_hold_of_an_elder_one_is_granted(self):
        world = World(SETUP)
        world.read("ann", "home", 0)
        world.ask("ann")
        world.deliver(0)
        world.deliver(1)
        self.assertEqual(world.holds("home"), [("ann", "read", 2, 2, 10, False, 1)])

    def test_an_elder_one_is_taken_where_the_newer_hold_is_gone(self):
        world = World(SETUP)
        world.read("ann", "home", 0)
        world.ask("ann")
        world.deliver(1)
        world.deliver(2)
        world.give_back("ann", "home")
        world.deliver(3)
        self.assertEqual(world.holds("home"), [])
        world.deliver(0)
        self.assertEqual(world.holds("home"), [("ann", "read", 2, 2, 10, False, 0)])

    def test_a_hold_of_another_file_or_client_is_no_reason(self):
        world = World(SETUP)
        world.read("ann", "home", 0)
        world.read("bo", "home", 0)
        world.deliver(1)
        world.deliver(0)
        self.assertEqual(marks(world), [("ann", "read", 2, 2), ("bo", "read", 1, 1)])

    def test_the_mark_and_the_kind_of_an_ask_are_those_of_the_message(self):
        world = leased("read")
        lend(world, "read", "bo")
        world.write("ann", "home", 0, 5)
        world.deliver(last(world))
        self.assertEqual(world.queue("home"), [("ann", "write", 4, 1)])


class Recalls(WorldCase):
    def test_readers_hold_together(self):
        world = World(SETUP)
        for client in ["cy", "ann", "bo"]:
            lend(world, "read", client)
        self.assertEqual(world.holds("home"), [
            ("ann", "read", 2, 2, 10, False, 2), ("bo", "read", 3, 3, 10, False, 4),
            ("cy", "read", 1, 1, 10, False, 0)])
        self.assertEqual(world.sent(), 6)

    def test_each_hold_in_the_way_of_a_writer_is_recalled_rising(self):
        world = World(SETUP)
        for client in ["cy", "ann"]:
            lend(world, "read", client)
        world.write("bo", "home", 0, 5)
        world.deliver(last(world))
        self.assertEqual(world.wire(), [
            (5, "server", "ann", ("recall", "home", 2)),
            (6, "server", "cy", ("recall", "home", 1))])
        self.assertEqual(world.holds("home"), [
            ("ann", "read", 2, 2, 10, True, 2), ("cy", "read", 1, 1, 10, True, 0)])
        self.assertEqual(world.queue("home"), [("bo", "write", 4, 0)])

    def test_each_is_recalled_but_once(self):
        world = leased("read")
        world.write("bo", "home", 0, 5)
        world.deliver(last(world))
        recall = sent_last(world)
        self.assertEqual(recall, ("server", "ann", ("recall", "home", 1)))
        world.drop(last(world))
        world.go_on(1)
        world.ask("bo")
        world.deliver(last(world))
        self.assertEqual(world.wire(), [])
        self.assertEqual(world.holds("home"), [("ann", "read", 1, 1, 10, True, 0)])

    def test_one_not_called_yet_is_recalled_beside_one_that_is(self):
        world = leased("read")
        world.write("bo", "home", 0, 5)
        world.read("cy", "home", 0)
        world.deliver(2)
        world.deliver(3)
        world.drop(4)
        world.ask("bo")
        world.deliver(last(world))
        self.assertEqual(world.wire(), [
            (6, "server", "cy", ("grant", "home", "read", 2, False, (0, 0), 3)),
            (7, "server", "cy", ("recall", "home", 2))])
        self.assertEqual([hold[5] for hold in world.holds("home")], [True, True])

    def test_a_writer_is_in_the_way_of_a_reader_and_of_a_writer(self):
        for kind in ["read", "write"]:
            world = leased("write")
            if kind == "read":
                world.read("bo", "home", 0)
            else:
                world.write("bo", "home", 0, 5)
            world.deliver(last(world))
            self.assertEqual(world.wire(), [(3, "server", "ann", ("recall", "home", 1))])
            self.assertEqual(world.holds("home"), [("ann", "write", 1, 1, 10, True, 0)])

    def test_a_reader_is_not_in_the_way_of_a_reader(self):
        world = leased("read")
        world.read("bo", "home", 0)
        world.deliver(last(world))
        self.assertEqual(sent_last(world)[2][0], "grant")

    def test_the_own_hold_is_not_in_the_way(self):
        world = leased("read")
        world.write("ann", "home", 0, 5)
        world.deliver(last(world))
        self.assertEqual(world.holds("home"), [("ann", "write", 1, 2, 10, False, 2)])

    def test_a_hold_of_another_file_is_not_in_the_way(self):
        world = leased("write")
        self.assertEqual(lend(world, "write", "bo", "log"), ("write", 2, 0))
        self.assertEqual(marks(world), [("ann", "write", 1, 1)])

    def test_the_mark_of_a_recall_is_that_of_the_hold(self):
        world = leased("read")
        world.write("ann", "home", 0, 5)
        world.deliver(last(world))
        world.read("bo", "home", 0)
        world.deliver(last(world))
        self.assertEqual(sent_last(world), ("server", "ann", ("recall", "home", 2)))


class Served(WorldCase):
    def test_all_stay_behind_the_first(self):
        world = leased("read")
        world.write("bo", "home", 0, 5)
        world.deliver(last(world))
        world.read("cy", "home", 0)
        world.deliver(last(world))
        self.assertEqual([row[0] for row in world.queue("home")], ["bo", "cy"])
        self.assertEqual(marks(world), [("ann", "read", 1, 1)])

    def test_a_writer_is_granted_behind_the_last_answer(self):
        world = World(SETUP)
        for client in ["ann", "cy"]:
            lend(world, "read", client)
        world.write("bo", "home", 0, 5)
        world.deliver(4)
        world.deliver(6)
        world.deliver(7)
        self.assertEqual(marks(world), [("ann", "read", 1, 1)])
        world.deliver(5)
        world.deliver(8)
        self.assertEqual(marks(world), [("bo", "write", 3, 3)])
        self.assertEqual(world.queue("home"), [])
        deliver_all(world)
        self.assertEqual(world.held("bo", "home"), (5, 0))

    def test_the_next_ones_are_looked_at_then(self):
        world = leased("write")
        for client in ["bo", "cy"]:
            world.read(client, "home", 0)
            world.deliver(last(world))
        deliver_all(world, to="ann")
        deliver_all(world, to="server")
        self.assertEqual(marks(world), [("bo", "read", 2, 2), ("cy", "read", 3, 3)])
        self.assertEqual(world.queue("home"), [])

    def test_one_granted_is_recalled_for_the_next_one_at_once(self):
        world = leased("write")
        for client in ["bo", "cy"]:
            world.write(client, "home", 0, 5)
            world.deliver(last(world))
        deliver_all(world, to="ann")
        deliver_all(world, to="server")
        self.assertEqual([row[2:] for row in world.wire()], [
            ("bo", ("grant", "home", "write", 2, False, (7, 0), 2)),
            ("bo", ("recall", "home", 2))])
        self.assertEqual(world.holds("home"), [("bo", "write", 2, 2, 10, True, 2)])

    def test_the_end_is_waited_for_and_not_ahead_of_it(self):
        world = leased("write")
        world.go_on(2)
        world.read("bo", "home", 0)
        world.deliver(last(world))
        world.go_on(7)
        self.assertEqual(marks(world), [("ann", "write", 1, 1)])
        world.go_on(1)
        self.assertEqual(world.holds("home"), [("bo", "read", 2, 2, 20, False, 2)])

    def test_over_already_when_the_ask_comes(self):
        world = leased("write")
        world.go_on(10)
        self.assertEqual(marks(world), [("ann", "write", 1, 1)])
        world.read("bo", "home", 0)
        world.deliver(last(world))
        self.assertEqual(marks(world), [("bo", "read", 2, 2)])
        self.assertNotIn("recall", [row[3][0] for row in world.wire()])

    def test_those_over_are_taken_away_and_the_others_recalled(self):
        world = leased("read")
        world.go_on(4)
        lend(world, "read", "cy")
        world.go_on(6)
        world.write("bo", "home", 0, 5)
        world.deliver(last(world))
        self.assertEqual(world.holds("home"), [("cy", "read", 2, 2, 14, True, 2)])
        self.assertEqual([row[2:] for row in world.wire()], [("cy", ("recall", "home", 2))])

    def test_a_reader_that_is_over_stays_where_it_is_not_in_the_way(self):
        world = leased("read")
        world.go_on(10)
        lend(world, "read", "bo")
        self.assertEqual(marks(world), [("ann", "read", 1, 1), ("bo", "read", 2, 2)])

    def test_no_hold_is_taken_away_where_nobody_asks(self):
        world = leased("write")
        world.go_on(10 ** 6)
        self.assertEqual(marks(world), [("ann", "write", 1, 1)])
        self.assertEqual(world.lost(), [])


class Granting(WorldCase):
    def test_a_first_grant(self):
        world = World(SETUP)
        world.go_on(3)
        world.write("bo", "home", 1, 5)
        world.go_on(2)
        world.deliver(0)
        self.assertEqual(world.holds("home"), [("bo", "write", 1, 1, 15, False, 0)])
        self.assertEqual(world.wire(), [
            (1, "server", "bo", ("grant", "home", "write", 1, False, (0, 0), 0))])

    def test_the_values_are_the_servers_of_all_pages(self):
        world = leased("write")
        world.write("ann", "home", 1, 8)
        world.give_back("ann", "home")
        deliver_all(world)
        world.read("bo", "home", 0)
        world.deliver(last(world))
        self.assertEqual(
            sent_last(world)[2], ("grant", "home", "read", 2, False, (7, 8), 3))

    def test_kept_with_its_low_and_a_new_end(self):
        world = leased("read")
        world.go_on(9)
        world.read("ann", "home", 0)
        world.deliver(last(world))
        self.assertEqual(world.holds("home"), [("ann", "read", 1, 2, 19, False, 2)])
        self.assertEqual(sent_last(world)[2], ("grant", "home", "read", 2, True, (), 2))

    def test_kept_also_where_it_is_over_long_since(self):
        world = leased("write")
        world.go_on(1000)
        world.write("ann", "home", 1, 8)
        deliver_all(world)
        self.assertEqual(world.holds("home"), [("ann", "write", 1, 2, 1010, False, 2)])
        self.assertEqual(world.held("ann", "home"), (7, 8))
        self.assertEqual(world.lost(), [])

    def test_kept_to_write_stays_to_write(self):
        world = leased("write")
        world.go_on(9)
        world.read("ann", "home", 0)
        world.deliver(last(world))
        self.assertEqual(world.holds("home"), [("ann", "write", 1, 2, 19, False, 2)])
        self.assertEqual(sent_last(world)[2], ("grant", "home", "write", 2, True, (), 2))
        deliver_all(world)
        self.assertEqual(world.lease("ann", "home"), ("write", 2, 9))

    def test_kept_to_read_becomes_one_to_write(self):
        world = leased("read")
        world.write("ann", "home", 0, 5)
        world.deliver(last(world))
        self.assertEqual(sent_last(world)[2], ("grant", "home", "write", 2, True, (), 2))

    def test_kept_by_any_mark_from_low_to_mark(self):
        # The grants of marks 2 and 3 are dropped, so ann asks with mark 1 on and on.
        world = leased("read")
        world.go_on(9)
        world.read("ann", "home", 0)
        for mark in [2, 3]:
            world.deliver(last(world))
            self.assertEqual(marks(world), [("ann", "read", 1, mark)])
            world.drop(last(world))
            world.ask("ann")
        self.assertEqual(sent_last(world)[2], ("ask", "home", "read", 1))
        deliver_all(world)
        self.assertEqual(world.lease("ann", "home"), ("read", 4, 9))
        self.assertEqual(marks(world), [("ann", "read", 1, 4)])

    def test_kept_by_the_very_mark(self):
        world = leased("read")
        for mark in [2, 3, 4]:
            world.go_on(9)
            self.assertEqual(lend(world, "read", "ann"), ("read", mark, 9 * (mark - 1)))
            self.assertEqual(marks(world), [("ann", "read", 1, mark)])

    def test_a_hold_granted_anew_is_not_called_any_more(self):
        # ann's ask comes first when bo asks anew, and goes to the end.
        world = leased("read")
        world.write("bo", "home", 0, 5)
        world.deliver(last(world))
        self.assertEqual(world.holds("home"), [("ann", "read", 1, 1, 10, True, 0)])
        world.write("ann", "home", 0, 6)
        world.deliver(last(world))
        world.ask("bo")
        world.deliver(last(world))
        self.assertEqual([row[3] for row in world.wire(to="ann")], [
            ("recall", "home", 1), ("grant", "home", "write", 2, True, (), 4),
            ("recall", "home", 2)])
        self.assertEqual(world.holds("home"), [("ann", "write", 1, 2, 10, True, 4)])

    def test_not_kept_without_a_lease(self):
        world = leased("read")
        world.fall("ann")
        world.read("ann", "home", 0)
        world.deliver(last(world))
        self.assertEqual(world.holds("home"), [("ann", "read", 2, 2, 10, False, 2)])
        self.assertEqual(sent_last(world)[2], ("grant", "home", "read", 2, False, (0, 0), 2))

    def test_not_kept_where_it_was_to_write_it_is_what_was_asked_for(self):
        world = leased("write")
        world.fall("ann")
        world.read("ann", "home", 0)
        world.deliver(last(world))
        self.assertEqual(marks(world), [("ann", "read", 2, 2)])
        self.assertEqual(world.lost(), [0])

    def test_not_kept_by_a_mark_below_its_low(self):
        # ann's hold is waited out, and an elder ask of hers brings another one, which
        # she did not ask for any more: so she asks by her elder lease.
        world = World(SETUP)
        world.read("ann", "home", 0)
        world.ask("ann")
        world.deliver(1)
        world.deliver(2)
        world.go_on(10)
        world.write("bo", "home", 0, 5)
        world.deliver(last(world))
        world.go_on(10)
        world.deliver(0)
        self.assertEqual(marks(world), [("ann", "read", 3, 3)])
        deliver_all(world)
        self.assertEqual(world.lease("ann", "home"), ("read", 1, 0))
        world.read("ann", "home", 0)
        self.assertEqual(sent_last(world)[2], ("ask", "home", "read", 1))
        world.deliver(last(world))
        self.assertEqual(marks(world), [("ann", "read", 4, 4)])
        self.assertEqual(sent_last(world)[2][4:6], (False, (0, 0)))

    def test_marks_go_on_over_all_files_and_clients(self):
        world = World(SETUP)
        self.assertEqual(lend(world, "read", "ann"), ("read", 1, 0))
        self.assertEqual(lend(world, "write", "bo", "log"), ("write", 2, 0))
        self.assertEqual(lend(world, "read", "cy"), ("read", 3, 0))
        self.assertEqual(marks(world), [("ann", "read", 1, 1), ("cy", "read", 3, 3)])
        self.assertEqual(marks(world, "log"), [("bo", "write", 2, 2)])


class Quiet(WorldCase):
    def test_writers_stay_until_the_quiet_time(self):
        world = World(SETUP)
        world.go_on(2)
        world.crash()
        self.assertEqual(world.quiet(), 12)
        world.write("ann", "home", 0, 5)
        world.deliver(last(world))
        world.go_on(9)
        self.assertEqual((world.time(), marks(world)), (11, []))
        self.assertEqual(world.queue("home"), [("ann", "write", 0, 0)])
        world.go_on(1)
        self.assertEqual(world.holds("home"), [("ann", "write", 1, 1, 22, False, 0)])

    def test_readers_behind_a_writer_stay_too(self):
        world = World(SETUP)
        world.crash()
        world.write("ann", "home", 0, 5)
        world.read("bo", "home", 0)
        world.deliver(0)
        world.deliver(1)
        self.assertEqual([row[0] for row in world.queue("home")], ["ann", "bo"])
        self.assertEqual(marks(world), [])

    def test_readers_ahead_are_granted_in_the_quiet_time(self):
        world = World(SETUP)
        world.crash()
        self.assertEqual(lend(world, "read", "bo"), ("read", 1, 0))

    def test_nobody_is_recalled_for_a_writer_in_the_quiet_time(self):
        world = World(SETUP)
        world.crash()
        lend(world, "read", "bo")
        world.write("ann", "home", 0, 5)
        world.deliver(last(world))
        self.assertEqual(world.wire(), [])
        self.assertEqual(world.holds("home"), [("bo", "read", 1, 1, 10, False, 0)])

    def test_a_hold_to_write_is_waited_out_anew(self):
        world = leased("write")
        world.go_on(6)
        world.crash()
        world.write("bo", "home", 0, 5)
        world.deliver(last(world))
        world.go_on(9)
        self.assertEqual(world.holds("home"), [("ann", "write", 1, 1, 16, False, 0)])
        world.go_on(1)
        self.assertEqual(marks(world), [("bo", "write", 2, 2)])

    def test_a_writer_of_the_own_hold_stays_too(self):
        world = leased("write")
        world.crash()
        world.go_on(9)
        world.write("ann", "home", 0, 5)
        world.deliver(last(world))
        self.assertEqual(marks(world), [("ann", "write", 1, 1)])
        world.go_on(1)
        self.assertEqual(marks(world), [("ann", "write", 1, 2)])

    def test_a_writer_is_in_the_way_of_a_reader_in_the_quiet_time(self):
        world = leased("write")
        world.crash()
        world.read("bo", "home", 0)
        world.deliver(last(world))
        self.assertEqual(sent_last(world)[2], ("recall", "home", 1))
        deliver_all(world)
        self.assertEqual(world.lease("bo", "home"), ("read", 2, 0))


if __name__ == "__main__":
    unittest.main()
