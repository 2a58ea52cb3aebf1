"""What is saved, and what is lost [12, 13]."""

import unittest

from pagelend.worlds import World
from world_help import SETUP, WorldCase, deliver_all, last, leased, lend, sent_last

# ann's clock is too slow: she uses a lease up to 17 ticks behind its asking.
SLOW = (SETUP[0], (("ann", 50, 0), ("bo", 100, 0), ("cy", 100, 0)), 10, 10)


def lost_rows(world):
    return world.log(word="lost")


class Saving(WorldCase):
    def test_a_row_that_counts_puts_value_and_stamp(self):
        world = leased("write")
        world.save("ann", "home")
        self.assertEqual(sent_last(world), (
            "ann", "server", ("save", "home", 1, ((0, 7, 1, 1),))))
        world.deliver(last(world))
        self.assertEqual((world.value("home", 0), world.stamp("home", 0)), (7, (1, 1)))
        self.assertEqual((world.value("home", 1), world.stamp("home", 1)), (0, (0, 0)))
        self.assertEqual(sent_last(world), (
            "server", "ann", ("saved", "home", 1, ((0, 7, 1, 1),))))
        self.assertEqual(world.holds("home"), [("ann", "write", 1, 1, 10, False, 0)])

    def test_rows_of_all_dirty_pages(self):
        world = leased("write")
        world.write("ann", "home", 1, 8)
        world.save("ann", "home")
        rows = ((0, 7, 1, 1), (1, 8, 1, 2))
        self.assertEqual(sent_last(world)[2], ("save", "home", 1, rows))
        world.deliver(last(world))
        self.assertEqual(sent_last(world)[2], ("saved", "home", 1, rows))
        self.assertEqual([world.stamp("home", page) for page in [0, 1]], [(1, 1), (1, 2)])

    def test_in_any_order_the_newest_stands(self):
        for order in [(0, 1, 2), (2, 1, 0), (1, 2, 0), (2, 0, 1)]:
            world = leased("write")
            saves = []
            for value in [11, 12, 13]:
                world.write("ann", "home", 0, value)
                world.save("ann", "home")
                saves.append(last(world))
            stamps = [world.stamp("home", 0)]
            for at in order:
                world.deliver(saves[at])
                self.assertEqual(sent_last(world)[2], (
                    "saved", "home", 1, ((0, 11 + at, 1, 2 + at),)))
                stamps.append(world.stamp("home", 0))
            self.assertEqual(stamps, sorted(stamps))
            self.assertEqual((world.value("home", 0), world.stamp("home", 0)), (13, (1, 4)))

    def test_the_same_twice(self):
        world = leased("write")
        world.save("ann", "home")
        world.save("ann", "home")
        world.deliver(2)
        world.deliver(3)
        self.assertEqual((world.value("home", 0), world.stamp("home", 0)), (7, (1, 1)))
        saved = ("saved", "home", 1, ((0, 7, 1, 1),))
        self.assertEqual([row[3] for row in world.wire()], [saved, saved])

    def test_rows_by_marks_of_their_writes(self):
        world = leased("write")
        world.go_on(9)
        lend(world, "write", "ann", page=1, value=8)
        self.assertEqual(world.dirty("ann", "home"), [(0, 7, 1, 1), (1, 8, 2, 2)])
        world.save("ann", "home")
        rows = ((0, 7, 1, 1), (1, 8, 2, 2))
        self.assertEqual(sent_last(world)[2], ("save", "home", 2, rows))
        world.deliver(last(world))
        self.assertEqual([world.stamp("home", page) for page in [0, 1]], [(1, 1), (2, 2)])
        self.assertEqual([world.value("home", page) for page in [0, 1]], [7, 8])

    def test_a_save_of_an_elder_mark_counts_from_low_to_mark(self):
        world = leased("write")
        world.save("ann", "home")
        save = last(world)
        world.go_on(9)
        world.write("ann", "home", 1, 8)
        world.deliver(last(world))
        self.assertEqual(world.holds("home")[0][2:4], (1, 2))
        world.deliver(save)
        self.assertEqual(sent_last(world)[2], ("saved", "home", 1, ((0, 7, 1, 1),)))
        self.assertEqual(world.value("home", 0), 7)

    def test_a_save_counts_where_the_hold_is_over_but_stands(self):
        world = leased("write")
        world.go_on(1000)
        world.save("ann", "home")
        world.deliver(last(world))
        self.assertEqual(world.value("home", 0), 7)

    def test_of_two_stamps_the_marks_are_looked_at_first(self):
        # (1, 9) is less than (2, 1).
        world = leased("write")
        for value in range(10, 18):
            world.write("ann", "home", 0, value)
        world.give_back("ann", "home")
        deliver_all(world)
        self.assertEqual(world.stamp("home", 0), (1, 9))
        lend(world, "write", "bo", value=5)
        world.save("bo", "home")
        deliver_all(world)
        self.assertEqual((world.value("home", 0), world.stamp("home", 0)), (5, (2, 1)))

    def test_a_save_does_not_serve_or_take_away(self):
        world = leased("write")
        world.read("bo", "home", 0)
        world.deliver(last(world))
        world.save("ann", "home")
        world.deliver(last(world))
        self.assertEqual([hold[0] for hold in world.holds("home")], ["ann"])


class GivenBack(WorldCase):
    def test_rows_are_saved_and_the_hold_is_taken_away(self):
        world = leased("write")
        world.give_back("ann", "home")
        self.assertEqual(sent_last(world), (
            "ann", "server", ("back", "home", 1, ((0, 7, 1, 1),))))
        world.deliver(last(world))
        self.assertEqual((world.value("home", 0), world.stamp("home", 0)), (7, (1, 1)))
        self.assertEqual(world.holds("home"), [])
        self.assertEqual(world.wire(), [])
        self.assertEqual(world.lost(), [])

    def test_without_rows_nothing_is_answered(self):
        world = leased("read")
        world.give_back("ann", "home")
        self.assertEqual(sent_last(world)[2], ("back", "home", 1, ()))
        world.deliver(last(world))
        self.assertEqual((world.wire(), world.holds("home")), ([], []))

    def test_of_an_elder_mark_the_hold_stays(self):
        world = leased("read")
        world.write("ann", "home", 0, 5)
        world.give_back("ann", "home")
        back = last(world)
        world.deliver(2)
        self.assertEqual(world.holds("home"), [("ann", "write", 1, 2, 10, False, 2)])
        world.deliver(back)
        self.assertEqual(world.holds("home"), [("ann", "write", 1, 2, 10, False, 2)])

    def test_of_an_elder_mark_rows_count_from_low_to_mark(self):
        world = leased("write")
        world.go_on(9)
        world.write("ann", "home", 1, 8)
        world.give_back("ann", "home")
        world.deliver(2)
        world.deliver(last(world) - 1)
        self.assertEqual(world.value("home", 0), 7)
        self.assertEqual(world.holds("home"), [("ann", "write", 1, 2, 19, False, 2)])
        self.assertNotIn("fenced", [row[3][0] for row in world.wire()])

    def test_behind_each_one_the_file_is_served(self):
        world = leased("write")
        world.read("bo", "home", 0)
        world.deliver(last(world))
        world.give_back("ann", "home")
        world.deliver(last(world))
        self.assertEqual(sent_last(world), (
            "server", "bo", ("grant", "home", "read", 2, False, (7, 0), 2)))

    def test_behind_one_without_a_hold_nothing_is_taken_away(self):
        world = leased("read")
        world.go_on(10)
        lend(world, "write", "bo")
        world.give_back("ann", "home")
        world.deliver(last(world))
        self.assertEqual([hold[0] for hold in world.holds("home")], ["bo"])

    def test_of_another_file_the_hold_stays(self):
        world = leased("read")
        lend(world, "read", "ann", "log")
        world.give_back("ann", "log")
        world.deliver(last(world))
        self.assertEqual(([hold[0] for hold in world.holds("home")], world.holds("log")), (
            ["ann"], []))


class Fenced(WorldCase):
    def waited_out(self):
        """ann wrote, and her hold was waited out for bo's, who wrote and saved."""
        world = leased("write")
        world.save("ann", "home")
        world.go_on(10)
        world.write("bo", "home", 0, 5)
        world.deliver(last(world))
        world.deliver(last(world))
        return world

    def test_a_save_that_comes_late(self):
        world = self.waited_out()
        self.assertEqual(world.lost(), [0])
        world.deliver(2)
        self.assertEqual(sent_last(world), ("server", "ann", ("fenced", "home", 1)))
        self.assertEqual((world.value("home", 0), world.stamp("home", 0)), (0, (0, 0)))

    def test_a_lease_given_back_that_comes_late(self):
        world = self.waited_out()
        world.give_back("ann", "home")
        world.deliver(last(world))
        self.assertEqual(sent_last(world), ("server", "ann", ("fenced", "home", 1)))
        self.assertEqual((world.value("home", 0), world.stamp("home", 0)), (0, (0, 0)))
        self.assertEqual([hold[0] for hold in world.holds("home")], ["bo"])

    def test_a_save_under_a_newer_hold_of_the_same_client(self):
        world = leased("write")
        world.save("ann", "home")
        world.fall("ann")
        world.read("ann", "home", 0)
        world.deliver(last(world))
        self.assertEqual(world.holds("home")[0][2:4], (2, 2))
        self.assertEqual(world.lost(), [0])
        world.deliver(2)
        self.assertEqual(sent_last(world), ("server", "ann", ("fenced", "home", 1)))
        self.assertEqual(world.value("home", 0), 0)

    def test_without_any_hold(self):
        world = leased("write")
        world.save("ann", "home")
        world.give_back("ann", "home")
        world.deliver(3)
        self.assertEqual(world.holds("home"), [])
        world.deliver(2)
        self.assertEqual(sent_last(world), ("server", "ann", ("fenced", "home", 1)))
        self.assertEqual(world.value("home", 0), 7)
        self.assertEqual(world.lost(), [])

    def test_the_mark_is_that_of_the_message(self):
        world = leased("write")
        world.go_on(9)
        lend(world, "write", "ann", page=1, value=8)
        world.save("ann", "home")
        save = last(world)
        world.go_on(10)
        world.read("bo", "home", 0)
        world.deliver(last(world))
        world.deliver(save)
        self.assertEqual(sent_last(world), ("server", "ann", ("fenced", "home", 2)))


class Lost(WorldCase):
    def test_waited_out_in_the_order_of_tasks(self):
        world = leased("write")
        world.write("ann", "home", 1, 8)
        world.write("ann", "home", 0, 9)
        world.go_on(10)
        self.assertEqual(world.lost(), [])
        world.read("bo", "home", 0)
        world.deliver(last(world))
        self.assertEqual(lost_rows(world), [
            (10, "lost", 0, "ann", "home", 0, 7), (10, "lost", 1, "ann", "home", 1, 8),
            (10, "lost", 2, "ann", "home", 0, 9)])
        self.assertEqual(world.lost(), [0, 1, 2])
        self.assertEqual([world.value("home", page) for page in [0, 1]], [0, 0])

    def test_not_ahead_of_the_end(self):
        world = leased("write")
        world.read("bo", "home", 0)
        world.deliver(last(world))
        world.go_on(9)
        self.assertEqual(world.lost(), [])
        world.go_on(1)
        self.assertEqual(lost_rows(world), [(10, "lost", 0, "ann", "home", 0, 7)])

    def test_what_is_saved_is_not_lost(self):
        world = leased("write")
        world.save("ann", "home")
        world.deliver(last(world))
        world.write("ann", "home", 0, 8)
        world.write("ann", "home", 1, 9)
        world.go_on(10)
        world.read("bo", "home", 0)
        world.deliver(last(world))
        self.assertEqual(world.lost(), [1, 2])
        self.assertEqual(world.value("home", 0), 7)

    def test_what_was_written_over_and_saved_is_not_lost(self):
        world = leased("write")
        world.write("ann", "home", 0, 8)
        world.save("ann", "home")
        world.deliver(last(world))
        world.go_on(10)
        world.read("bo", "home", 0)
        world.deliver(last(world))
        self.assertEqual(world.lost(), [])

    def test_of_that_client_and_file_alone(self):
        world = leased("write")
        lend(world, "write", "ann", "log", value=3)
        lend(world, "write", "cy", "log", value=4)
        self.assertEqual(world.lost(), [])
        world.go_on(10)
        world.read("bo", "home", 0)
        world.deliver(last(world))
        self.assertEqual(world.lost(), [0])
        world.read("ann", "log", 0)
        world.deliver(last(world))
        self.assertEqual(world.lost(), [0, 2])

    def test_each_but_once(self):
        world = leased("write")
        for client in ["bo", "cy", "bo"]:
            world.go_on(10)
            world.write(client, "home", 0, 5)
            deliver_all(world)
        self.assertEqual(len(world.lost()), len(set(world.lost())))
        self.assertEqual(len(lost_rows(world)), len(world.lost()))

    def test_a_grant_that_is_not_kept_loses_what_stood_under_the_elder_hold(self):
        world = leased("write")
        world.fall("ann")
        self.assertEqual(world.lost(), [])
        world.write("ann", "home", 0, 5)
        world.deliver(last(world))
        self.assertEqual(lost_rows(world), [(0, "lost", 0, "ann", "home", 0, 7)])

    def test_a_kept_grant_loses_nothing(self):
        world = leased("write")
        world.go_on(9)
        lend(world, "write", "ann", value=8)
        self.assertEqual(world.lost(), [])
        self.assertEqual(world.dirty("ann", "home"), [(0, 8, 2, 2)])

    def test_given_back_without_what_was_written_ahead_of_a_fall(self):
        world = leased("write")
        world.read("bo", "home", 0)
        world.deliver(last(world))
        world.fall("ann")
        world.deliver(last(world))
        self.assertEqual(sent_last(world)[2], ("back", "home", 1, ()))
        world.deliver(last(world))
        self.assertEqual(lost_rows(world), [(0, "lost", 0, "ann", "home", 0, 7)])

    def test_several_holds_over_are_taken_away_by_clients_rising(self):
        # Two readers, of whom neither can have lost anything: the writer alone does.
        world = leased("read")
        lend(world, "read", "cy")
        world.go_on(10)
        world.write("bo", "home", 0, 5)
        world.deliver(last(world))
        self.assertEqual(world.lost(), [])
        self.assertEqual([hold[0] for hold in world.holds("home")], ["bo"])

    def test_files_are_served_rising_and_tasks_lost_told_rising(self):
        world = World(SETUP)
        lend(world, "write", "cy", "log", value=3)
        lend(world, "write", "ann", "home", value=4)
        for client, file in [("bo", "log"), ("cy", "home")]:
            world.read(client, file, 0)
            world.deliver(last(world))
        world.go_on(10)
        self.assertEqual([row[2:5] for row in lost_rows(world)], [
            (1, "ann", "home"), (0, "cy", "log")])
        self.assertEqual(world.lost(), [0, 1])
        self.assertEqual([row[2:] for row in world.wire()[-2:]], [
            ("cy", ("grant", "home", "read", 3, False, (0, 0), 6)),
            ("bo", ("grant", "log", "read", 4, False, (0,), 4))])


class LostAtOnce(WorldCase):
    def test_by_a_clock_that_is_too_slow(self):
        world = leased("write", setup=SLOW)
        world.save("ann", "home")
        deliver_all(world)
        world.go_on(10)
        lend(world, "write", "bo", value=5)
        self.assertTrue(world.uses("ann", "home"))
        self.assertIs(world.write("ann", "home", 1, 8), True)
        self.assertEqual(world.log()[-3:], [
            (10, "began", 2, "ann", "home", 1, 8), (10, "wrote", 2, "ann", "home", 1, 8),
            (10, "lost", 2, "ann", "home", 1, 8)])
        self.assertEqual(world.held("ann", "home"), (7, 8))
        self.assertEqual(world.dirty("ann", "home"), [(1, 8, 1, 2)])
        self.assertEqual(world.lost(), [2])

    def test_also_where_the_stamp_of_the_page_is_greater(self):
        world = leased("write", setup=SLOW)
        world.go_on(10)
        lend(world, "write", "bo", value=5)
        world.save("bo", "home")
        deliver_all(world)
        self.assertEqual(world.stamp("home", 0), (2, 1))
        world.write("ann", "home", 0, 8)
        self.assertEqual(world.log()[-1], (10, "lost", 2, "ann", "home", 0, 8))
        self.assertEqual(world.lost(), [0, 2])

    def test_under_a_newer_hold_of_the_same_client(self):
        # ann's elder ask brings a hold of mark 3, but her lease is of mark 1.
        world = World(SLOW)
        world.write("ann", "home", 0, 7)
        world.ask("ann")
        world.deliver(1)
        world.deliver(2)
        world.go_on(10)
        world.read("bo", "home", 0)
        world.deliver(last(world))
        world.deliver(0)
        deliver_all(world, to="bo")
        deliver_all(world, to="server")
        self.assertEqual(world.holds("home")[0][:4], ("ann", "write", 3, 3))
        world.write("ann", "home", 1, 8)
        self.assertEqual(world.lost(), [0, 2])

    def test_when_a_waiting_write_is_done(self):
        # The hold of a grant under way is waited out, then the grant comes.
        world = World(SLOW)
        world.write("ann", "home", 0, 7)
        world.deliver(0)
        world.go_on(10)
        world.read("bo", "home", 0)
        world.deliver(last(world))
        world.deliver(1)
        self.assertEqual(world.log(client="ann"), [
            (0, "began", 0, "ann", "home", 0, 7), (10, "wrote", 0, "ann", "home", 0, 7),
            (10, "lost", 0, "ann", "home", 0, 7)])

    def test_not_where_the_hold_stands(self):
        world = leased("write", setup=SLOW)
        world.go_on(17)
        world.write("ann", "home", 1, 8)
        self.assertEqual(world.lost(), [])

    def test_what_is_lost_never_comes_into_a_file(self):
        world = leased("write", setup=SLOW)
        world.go_on(10)
        world.read("bo", "home", 0)
        deliver_all(world, to="server")
        world.write("ann", "home", 1, 8)
        world.save("ann", "home")
        world.give_back("ann", "home")
        deliver_all(world)
        self.assertEqual(world.lost(), [0, 2])
        self.assertEqual([world.value("home", page) for page in [0, 1]], [0, 0])
        self.assertEqual([world.stamp("home", page) for page in [0, 1]], [(0, 0)] * 2)


if __name__ == "__main__":
    unittest.main()
