"""Each call from open to peak: ordinary inputs, its refusals, and that a refused call changes nothing."""

import unittest

from helper import MOST, SHOWN, SOME, Calls, ask


class Refused(Calls):

    def test_all_but_open_while_not_open(self):
        for call in (("load", 0, []), ("need", 1, 0), ("room", 1, 1, 0), ("base", 1, 0), ("add",), ("pass", []),
                     *SHOWN, ("squares",), ("because",), ("state",), ("top", 1), ("forced", []), ("check", []),
                     ("slack", 1, 1), ("fits", 0), ("could", 1), ("info", 1)):
            self.refused([], call, -2)
            self.refused([("open", 0)], call, -2)

    def test_out_of_range_goes_ahead_of_not_open(self):
        for call in (("load", -1, []), ("need", 0, 0), ("room", 1, 9, 0), ("base", 1, MOST + 1), ("pass", [-1]),
                     ("open", 0), ("open", 9), ("top", 0), ("top", 9), ("forced", [0]), ("forced", [9]),
                     ("forced", [1] * 9), ("check", [-1]), ("check", [0] * 65), ("slack", 0, 1), ("slack", 1, 9),
                     ("fits", -1), ("fits", 10 ** 10 + 1), ("could", 0), ("info", 9)):
            self.refused([], call, -1)

    def test_out_of_range_goes_ahead_of_the_call_s_own_refusals(self):
        self.refused(SOME, ("open", 9), -1)
        self.refused(SOME, ("load", MOST + 1, [1]), -1)
        self.refused(SOME, ("load", 0, [0] * 9), -1)
        self.refused(SOME, ("need", 3, MOST + 1), -1)
        self.refused(SOME, ("room", 3, 9, 0), -1)
        self.refused(SOME, ("room", 3, 4, -1), -1)
        self.refused(SOME, ("base", 4, -1), -1)
        self.refused(SOME, ("pass", [0, MOST + 1]), -1)
        self.refused([("open", 1), ("pass", [])], ("pass", [0] * 9), -1)

    def test_all_is_looked_at_also_behind_what_is_out_of_range(self):
        given = ask(("open", 0), ("open", 1), ("load", -1, [1, 2, 3]), ("peak",))
        self.assertEqual(given, [[-1], [0], [-1], [0, 0]])


class Open(Calls):

    def test_looks_at_so_many_periods(self):
        for periods in range(1, 9):
            self.answers_to([("open", periods)], [0])
            self.answers_to([("open", periods), ("totals",)], [0] + [0] * periods)

    def test_open_already(self):
        self.refused([("open", 3)], ("open", 3), -3)
        self.refused(SOME, ("open", 8), -3)
        self.refused([("open", 1), ("pass", [])], ("open", 1), -3)

    def test_a_refused_open_leaves_the_house_not_open(self):
        self.assertEqual(ask(("open", 9), ("add",), ("open", 1), ("add",)), [[-1], [-2], [0], [0]])


class Load(Calls):

    def test_answers_its_number(self):
        given = ask(("open", 2), *[("load", 1, [1, 1])] * 8)
        self.assertEqual(given, [[0]] + [[0, load] for load in range(1, 9)])

    def test_is_part_of_the_plan(self):
        self.answers_to([("open", 2), ("load", 3, [2, 2]), ("totals",)], [0, 1, 2])

    def test_need_as_great_as_the_rooms(self):
        self.answers_to([("open", 2), ("load", 4, [3, 1])], [0, 1])
        self.refused([("open", 2)], ("load", 5, [3, 1]), -7)

    def test_fewer_or_more_rooms_than_periods(self):
        for rooms in ([], [5], [5] * 3, [5] * 8):
            self.refused([("open", 2)], ("load", 0, rooms), -7)

    def test_a_ninth(self):
        eight = [("open", 1)] + [("load", 1, [1])] * 8
        self.refused(eight, ("load", 1, [1]), -4)

    def test_a_ninth_that_does_not_fit(self):
        eight = [("open", 1)] + [("load", 1, [1])] * 8
        self.refused(eight, ("load", 2, [1]), -7)
        self.refused(eight, ("load", 0, [1, 1]), -7)

    def test_a_refused_load_has_no_number(self):
        self.assertEqual(ask(("open", 1), ("load", 2, [1]), ("load", 1, [1])), [[0], [-7], [0, 1]])

    def test_with_no_periods(self):
        none = [("open", 1), ("pass", [])]
        self.answers_to(none + [("load", 0, [])], [0, 1])
        self.refused(none, ("load", 1, []), -7)
        self.refused(none, ("load", 0, [0]), -7)


class Need(Calls):

    def test_is_the_need_now(self):
        self.answers_to(SOME + [("need", 2, 0)], [0])
        self.answers_to(SOME + [("need", 2, 0), ("amounts",)], [0, 0, 2, 2])
        self.answers_to(SOME + [("need", 1, 6), ("need", 2, 6), ("amounts",)], [0, 2, 7, 3])

    def test_no_such_load(self):
        self.refused(SOME, ("need", 3, 0), -5)
        self.refused(SOME, ("need", 8, MOST), -5)
        self.refused([("open", 1)], ("need", 1, 0), -5)

    def test_more_than_the_rooms(self):
        self.answers_to(SOME + [("need", 1, 6)], [0])
        self.refused(SOME, ("need", 1, 7), -7)
        self.refused(SOME, ("need", 2, 7), -7)


class Room(Calls):

    def test_is_the_room_now(self):
        self.answers_to(SOME + [("room", 1, 2, 0)], [0])
        self.answers_to(SOME + [("room", 1, 2, 0), ("amounts",)], [0, 2, 2, 2])
        self.answers_to(SOME + [("room", 1, 2, 9), ("need", 1, 13)], [0])
        self.refused(SOME + [("room", 1, 2, 9)], ("need", 1, 14), -7)
        self.answers_to(SOME + [("room", 2, 3, 0), ("shares",)], [0, 0, 2, 2, 0, 2, 0])

    def test_no_such_load_goes_ahead_of_no_such_period(self):
        self.refused(SOME, ("room", 3, 1, 5), -5)
        self.refused(SOME, ("room", 3, 4, 0), -5)
        self.refused([("open", 1)], ("room", 1, 1, 0), -5)

    def test_period_not_looked_at_goes_ahead_of_too_little(self):
        self.refused(SOME, ("room", 1, 4, 0), -8)
        self.refused(SOME + [("need", 1, 6)], ("room", 1, 8, 0), -8)
        self.refused([("open", 1), ("load", 0, [1]), ("pass", [0])], ("room", 1, 1, 0), -8)

    def test_rooms_less_than_the_need(self):
        self.answers_to(SOME + [("room", 1, 1, 0)], [0])
        self.refused(SOME + [("room", 1, 1, 0)], ("room", 1, 3, 1), -7)
        self.refused(SOME + [("need", 1, 6)], ("room", 1, 3, 1), -7)

    def test_a_refused_room_is_not_kept(self):
        given = ask(*SOME, ("need", 1, 6), ("room", 1, 1, 1), ("need", 1, 6), ("need", 1, 5))
        self.assertEqual(given[-3:], [[-7], [0], [0]])


class Base(Calls):

    def test_is_the_base_now(self):
        self.answers_to(SOME + [("base", 1, 0)], [0])
        self.answers_to(SOME + [("base", 1, 0), ("totals",)], [0, 2, 2, 3])
        self.answers_to([("open", 3), ("base", 2, 7), ("base", 2, 4), ("totals",)], [0, 0, 4, 0])
        self.answers_to([("open", 3), ("base", 3, 7), ("amounts",)], [0, 0, 0, 0])

    def test_period_not_looked_at(self):
        self.refused(SOME, ("base", 4, 0), -8)
        self.refused([("open", 1), ("pass", [])], ("base", 1, 0), -8)


class Add(Calls):

    def test_one_period_more(self):
        self.answers_to(SOME + [("add",)], [0])
        self.answers_to(SOME + [("add",), ("totals",)], [0, 3, 3, 4, 0])

    def test_its_rooms_are_0(self):
        self.refused(SOME + [("add",)], ("need", 1, 7), -7)
        self.answers_to(SOME + [("add",), ("room", 1, 4, 9), ("need", 1, 15)], [0])
        self.answers_to([("open", 1), ("load", 4, [4]), ("add",), ("room", 1, 2, 1), ("amounts",)], [0, 3, 1])

    def test_8_periods_already(self):
        self.refused([("open", 8)], ("add",), -4)
        self.assertEqual(ask(("open", 7), ("add",), ("add",)), [[0], [0], [-4]])

    def test_behind_pass(self):
        before = [("open", 8), ("base", 2, 5), ("load", 3, [1] * 8), ("pass", [1])]
        self.answers_to(before + [("add",)], [0])
        self.answers_to(before + [("totals",)], [0, 5, 0, 0, 0, 0, 1, 1])
        self.answers_to(before + [("add",), ("totals",)], [0, 5, 0, 0, 0, 0, 1, 1, 0])
        self.refused(before + [("add",)], ("add",), -4)
        self.refused(before + [("add",)], ("need", 1, 8), -7)

    def test_behind_the_last_pass(self):
        none = [("open", 1), ("base", 1, 4), ("load", 2, [3]), ("pass", [2])]
        self.answers_to(none + [("add",), ("totals",)], [0, 0])
        self.answers_to(none + [("add",), ("room", 1, 1, 3), ("need", 1, 3), ("totals",)], [0, 3])


class Pass(Calls):

    def test_answers_period_1_s_total(self):
        self.answers_to(SOME + [("pass", [1, 0])], [0, 4])
        self.answers_to([("open", 1), ("base", 1, 6), ("pass", [])], [0, 6])
        self.answers_to([("open", 2), ("load", 2, [2, 2]), ("load", 3, [2, 2]), ("pass", [2, 1])], [0, 3])

    def test_the_later_periods_move_up(self):
        self.answers_to(SOME + [("pass", [1, 0]), ("totals",)], [0, 3, 3])
        self.answers_to(SOME + [("pass", [1, 0]), ("shares",)], [0, 2, 1, 1, 1])
        self.answers_to(SOME + [("pass", [0, 0]), ("amounts",)], [0, 3, 3])
        self.refused(SOME + [("pass", [0, 0])], ("base", 3, 0), -8)

    def test_the_need_is_less_by_what_it_got(self):
        before = [("open", 3), ("load", 5, [4, 4, 4])]
        self.answers_to(before + [("pass", [3]), ("amounts",)], [0, 1, 1])
        self.answers_to(before + [("pass", [0]), ("amounts",)], [0, 2, 3])

    def test_no_period_is_looked_at(self):
        self.refused([("open", 1), ("pass", [])], ("pass", []), -8)
        self.refused([("open", 1), ("load", 1, [1]), ("pass", [1])], ("pass", [0, 0]), -8)
        self.refused([("open", 1), ("load", 1, [1]), ("pass", [1])], ("pass", [1]), -8)

    def test_fewer_or_more_numbers_than_loads(self):
        for gets in ([], [1], [1, 0, 0], [0] * 8):
            self.refused(SOME, ("pass", gets), -7)
        self.refused([("open", 1)], ("pass", [0]), -7)

    def test_above_the_room(self):
        before = [("open", 2), ("load", 5, [2, 9])]
        self.answers_to(before + [("pass", [2])], [0, 2])
        self.refused(before, ("pass", [3]), -7)

    def test_above_the_need(self):
        before = [("open", 2), ("load", 2, [9, 9])]
        self.answers_to(before + [("pass", [2])], [0, 2])
        self.refused(before, ("pass", [3]), -7)

    def test_too_much_is_left_for_later(self):
        before = [("open", 3), ("load", 5, [4, 1, 2])]
        self.answers_to(before + [("pass", [2])], [0, 2])
        self.refused(before, ("pass", [1]), -7)
        self.refused([("open", 1), ("load", 5, [5])], ("pass", [4]), -7)

    def test_one_load_that_can_not_get_it_is_enough(self):
        before = [("open", 2), ("load", 2, [2, 2]), ("load", 2, [1, 2]), ("load", 2, [2, 2])]
        self.answers_to(before + [("pass", [2, 1, 2])], [0, 5])
        self.refused(before, ("pass", [2, 2, 2]), -7)
        self.refused(before, ("pass", [2, 1, 3]), -7)

    def test_all_periods_one_after_the_other(self):
        calls = [("open", 8)]
        calls += [("base", period, period) for period in range(1, 9)]
        calls += [("load", 8, [1] * 8), ("load", 3, [0] * 5 + [1] * 3)]
        for period in range(1, 9):
            calls.append(("pass", [1, 1 if period > 5 else 0]))
        given = ask(*calls)
        self.assertEqual(given[-8:], [[0, 2], [0, 3], [0, 4], [0, 5], [0, 6], [0, 8], [0, 9], [0, 10]])


class Questions(Calls):

    def test_of_a_house(self):
        self.answers_to(SOME + [("totals",)], [0, 3, 3, 4])
        self.answers_to(SOME + [("amounts",)], [0, 0, 3, 3])
        self.answers_to(SOME + [("shares",)], [0, 0, 2, 2, 0, 1, 1])
        self.answers_to(SOME + [("peak",)], [0, 4])

    def test_change_nothing(self):
        given = ask(*SOME, *SHOWN, *SHOWN)
        self.assertEqual(given[-4:], given[-8:-4])

    def test_with_no_loads(self):
        before = [("open", 3), ("base", 2, 7)]
        self.assertEqual(ask(*before, *SHOWN)[2:], [[0, 0, 7, 0], [0, 0, 0, 0], [0], [0, 7]])

    def test_with_no_periods_left(self):
        none = [("open", 1), ("base", 1, 7), ("load", 2, [2]), ("pass", [2])]
        self.assertEqual(ask(*none, *SHOWN)[4:], [[0], [0], [0], [0, 0]])
        self.assertEqual(ask(("open", 1), ("pass", []), *SHOWN)[2:], [[0], [0], [0], [0, 0]])

    def test_after_changes_the_plan_is_anew(self):
        given = ask(("open", 2), ("load", 4, [4, 4]), ("totals",), ("base", 1, 3), ("totals",),
                    ("room", 1, 2, 2), ("totals",), ("need", 1, 1), ("totals",), ("load", 2, [0, 2]), ("totals",))
        self.assertEqual(given[2::2], [[0, 2, 2], [0, 3, 4], [0, 5, 2], [0, 3, 1], [0, 3, 3]])


if __name__ == "__main__":
    unittest.main()
