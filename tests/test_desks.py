import inspect
import random
import unittest

from account import (NOT_INTEGERS, NOT_NAMES, NOT_TABLES, all_shifts_of, cost_of, free_account, random_jobs, refusal,
                     table_of)
from keepapart.desks import Desk
from keepapart.errors import BadJob, BadName, BadTimetable, NothingDone
from keepapart.jobs import Job, Timetable

ZEROS = (0, 0, 0)


def new_desk():
    return Desk(Timetable({"mail": Job(4, cost=3), "sync": Job(6, start=2, cost=5), "log": Job(1, cost=7)}))


def added(made, shifts, at, number):
    """The shifts after a step, a single tick after the other."""
    found = list(shifts)
    for _ in range(number):
        found[at] = 0 if found[at] == made[at][0] - 1 else found[at] + 1
    return tuple(found)


class Account(unittest.TestCase):
    """Desks beside an account of their shifts, with all free shifts found time by time."""

    def check(self, desk, made, costs, shifts, free):
        moved = [(period, duration, (start + shift) % period)
                 for (period, duration, start), shift in zip(made, shifts)]
        table = table_of(*moved, costs=costs)
        self.assertEqual(desk.now, shifts)
        self.assertIs(type(desk.now), tuple)
        self.assertEqual(desk.table, table)
        self.assertIs(type(desk.table), Timetable)
        self.assertEqual(desk.spent, cost_of(shifts, costs))
        self.assertIs(bool(desk), shifts in free)
        self.assertEqual(len(desk), sum(shift != 0 for shift in shifts))
        for name, shift in zip(table.names, shifts):
            self.assertEqual(desk[name], shift)
            self.assertIs(name in desk, shift != 0)
            self.assertIs(name not in desk, shift == 0)

    def refused(self, luck, desk, made, names):
        """A few calls that are refused."""
        at = luck.randrange(len(made))
        refusal(self, BadName, desk.move, luck.choice(["other", "", 0, None]), luck.choice([1, 0, None]))
        refusal(self, BadJob, desk.move, names[at], luck.choice([0, -1, made[at][0], made[at][0] + 1, None, True, "1"]))
        refusal(self, BadName, lambda: desk["other"])
        refusal(self, BadName, lambda: "other" in desk)

    def test_step_by_step(self):
        luck = random.Random(21)
        truths = []
        for _ in range(60):
            made = random_jobs(luck, largest=300)
            costs = [luck.randint(1, 9) for _ in made]
            table, free = table_of(*made, costs=costs), set(free_account(made))
            desk, shifts, states = Desk(table), (0,) * len(made), []
            self.check(desk, made, costs, shifts, free)
            steps = [(at, number) for at, one in enumerate(made) for number in range(1, one[0])]
            for _ in range(12 if steps else 0):
                if states and luck.random() < 0.3:
                    name, shifts = states.pop()
                    self.assertEqual(desk.undo(), name)
                else:
                    at, number = luck.choice(steps)
                    states.append((table.names[at], shifts))
                    shifts = added(made, shifts, at, number)
                    moved = desk.move(table.names[at], number)
                    self.assertIs(moved, shifts in free)
                    truths.append(moved)
                self.check(desk, made, costs, shifts, free)
                self.refused(luck, desk, made, table.names)
                self.check(desk, made, costs, shifts, free)
            for name, shifts in reversed(states):
                self.assertEqual(desk.undo(), name)
                self.check(desk, made, costs, shifts, free)
            refusal(self, NothingDone, desk.undo)
            self.check(desk, made, costs, (0,) * len(made), free)
            self.assertEqual(table, table_of(*made, costs=costs))
        self.assertGreater(min(truths.count(True), truths.count(False)), 30)

    def test_cures(self):
        luck = random.Random(22)
        seen = 0
        for _ in range(80):
            made = random_jobs(luck, largest=200)
            table, free = table_of(*made), set(free_account(made))
            desk, shifts = Desk(table), (0,) * len(made)
            for _ in range(3):
                expected = [(table.names[at], number) for at, one in enumerate(made) for number in range(1, one[0])
                            if added(made, shifts, at, number) in free]
                self.assertEqual(list(desk.cures()), expected, (made, shifts))
                self.assertEqual(desk.now, shifts)
                seen += 0 < len(expected) < sum(one[0] - 1 for one in made)
                wanted = luck.choice(all_shifts_of(made))
                for name, here, there, one in zip(table.names, shifts, wanted, made):
                    if here != there:
                        desk.move(name, (there - here) % one[0])
                shifts = wanted
        self.assertGreater(seen, 20)

    def test_cures_are_just_the_moves_that_return_true(self):
        table = Timetable({"mail": Job(4), "sync": Job(6, cost=5), "log": Job(2, start=1)})
        desk = Desk(table)
        desk.move("sync", 3)
        cures = list(desk.cures())
        found = []
        for name in table.names:
            for number in range(1, table[name].period):
                if desk.move(name, number):
                    found.append((name, number))
                desk.undo()
        self.assertEqual(found, cures)


class Steps(unittest.TestCase):
    def test_new_desk(self):
        desk = new_desk()
        self.assertEqual((desk.now, desk.spent, len(desk)), (ZEROS, 0, 0))
        self.assertEqual(desk.table, Timetable({"mail": Job(4, cost=3), "sync": Job(6, start=2, cost=5),
                                                "log": Job(1, cost=7)}))

    def test_back_to_zeros(self):
        desk = new_desk()
        for number, shift in [(3, 3), (1, 0), (2, 2), (3, 1), (3, 0)]:
            desk.move("mail", number)
            self.assertEqual(desk.now, (shift, 0, 0))
            self.assertEqual("mail" in desk, shift != 0)
            self.assertEqual(len(desk), int(shift != 0))
            self.assertEqual(desk.spent, 3 * shift)
        for shift in [1, 2, 0, 3, 0]:
            self.assertEqual(desk.undo(), "mail")
            self.assertEqual(desk["mail"], shift)
        refusal(self, NothingDone, desk.undo)

    def test_undo_gives_the_names_the_last_one_first(self):
        desk = new_desk()
        for name, number in [("mail", 1), ("sync", 5), ("sync", 1), ("mail", 2)]:
            desk.move(name, number)
        self.assertEqual(desk.now, (3, 0, 0))
        self.assertEqual([desk.undo() for _ in range(4)], ["mail", "sync", "sync", "mail"])
        self.assertEqual(desk.now, ZEROS)

    def test_steps_after_an_undo(self):
        desk = new_desk()
        desk.move("mail", 1)
        desk.undo()
        refusal(self, NothingDone, desk.undo)
        desk.move("sync", 2)
        self.assertEqual((desk.now, desk.undo(), desk.now), ((0, 2, 0), "sync", ZEROS))

    def test_nothing_done_again_and_again(self):
        desk = new_desk()
        for _ in range(3):
            refusal(self, NothingDone, desk.undo)
        self.assertEqual(desk.now, ZEROS)

    def test_move_tells_the_truth(self):
        desk = Desk(Timetable({"mail": Job(4), "sync": Job(4)}))
        self.assertEqual([desk.move("mail", 1), desk.move("sync", 1), desk.move("sync", 1)], [True, False, True])
        self.assertIs(Desk(Timetable({"mail": Job(4), "sync": Job(5)})).move("mail", 1), False)
        self.assertIs(Desk(Timetable({"mail": Job(4)})).move("mail", 1), True)

    def test_two_desks(self):
        table = Timetable({"mail": Job(4), "sync": Job(4)})
        one, other = Desk(table), Desk(table)
        one.move("mail", 1)
        self.assertEqual((one.now, other.now), ((1, 0), (0, 0)))
        refusal(self, NothingDone, other.undo)

    def test_the_timetable_stays(self):
        table = Timetable({"mail": Job(4, start=3), "sync": Job(4)})
        desk = Desk(table)
        desk.move("mail", 1)
        desk.table.names.clear()
        self.assertEqual(table, Timetable({"mail": Job(4, start=3), "sync": Job(4)}))
        self.assertEqual(desk.table, Timetable({"mail": Job(4), "sync": Job(4)}))

    def test_properties_cannot_be_set(self):
        desk = new_desk()
        for name in ["now", "table", "spent"]:
            with self.assertRaises(AttributeError):
                setattr(desk, name, None)


class Cures(unittest.TestCase):
    def test_it_is_a_generator(self):
        self.assertTrue(inspect.isgeneratorfunction(Desk.cures))

    def test_for_the_shifts_when_the_first_one_is_requested(self):
        desk = Desk(Timetable({"mail": Job(4), "sync": Job(4)}))
        before = desk.cures()
        desk.move("mail", 1)
        # Now it is (1, 0): all but the steps that lead to equal shifts.
        self.assertEqual(next(before), ("mail", 1))
        desk.move("mail", 1)
        desk.move("sync", 3)
        self.assertEqual(list(before), [("mail", 2), ("sync", 2), ("sync", 3)])
        self.assertEqual(list(desk.cures()), [("mail", 2), ("mail", 3), ("sync", 1), ("sync", 2)])

    def test_steps_between_the_items(self):
        desk = Desk(Timetable({"mail": Job(6), "sync": Job(3)}))
        found = []
        for name, number in desk.cures():
            found.append((name, number))
            desk.move(name, number)
        self.assertEqual(found, [("mail", 1), ("mail", 2), ("mail", 4), ("mail", 5), ("sync", 1), ("sync", 2)])
        self.assertEqual([desk.undo() for _ in found], ["sync", "sync", "mail", "mail", "mail", "mail"])

    def test_none(self):
        self.assertEqual(list(Desk(Timetable({"mail": Job(4), "sync": Job(5)})).cures()), [])
        self.assertEqual(list(Desk(Timetable({"mail": Job(1)})).cures()), [])

    def test_items_are_tuples(self):
        self.assertEqual(list(Desk(Timetable({"mail": Job(3)})).cures()), [("mail", 1), ("mail", 2)])


class Refused(unittest.TestCase):
    def test_no_timetable(self):
        for value in NOT_TABLES:
            self.assertIsNone(refusal(self, BadTimetable, Desk, value).part)

    def test_what_is_no_name(self):
        desk = new_desk()
        desk.move("sync", 4)
        for value in NOT_NAMES + ["back", "mails", "mai"]:
            refusal(self, BadName, desk.move, value, 1)
            refusal(self, BadName, desk.move, value, 0)
            refusal(self, BadName, desk.move, value, None)
            refusal(self, BadName, lambda: desk[value])
            refusal(self, BadName, lambda: value in desk)
            refusal(self, BadName, lambda: value not in desk)
        self.assertEqual(desk.now, (0, 4, 0))
        self.assertEqual(desk.undo(), "sync")

    def test_what_is_no_number(self):
        desk = new_desk()
        desk.move("sync", 4)
        for value in NOT_INTEGERS + [-6, -4, -1, 0, 10 ** 30]:
            for name in ["mail", "sync", "log"]:
                refusal(self, BadJob, desk.move, name, value)
        for name, number in [("mail", 4), ("mail", 5), ("sync", 6), ("sync", 7), ("log", 1), ("log", 2)]:
            refusal(self, BadJob, desk.move, name, number)
        self.assertEqual((desk.now, desk.spent, len(desk)), ((0, 4, 0), 20, 1))
        self.assertEqual(desk.undo(), "sync")
        refusal(self, NothingDone, desk.undo)

    def test_all_numbers_in_range(self):
        for number in range(1, 12):
            desk = Desk(Timetable({"mail": Job(12)}))
            desk.move(name="mail", number=number)
            self.assertEqual(desk.now, (number,))


if __name__ == "__main__":
    unittest.main()
