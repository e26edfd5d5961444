"""Each call from top to state: ordinary inputs, the edges that the document names, and its refusals."""

import unittest

from helper import FAR, MOST, SHOWN, SOME, Calls, ask, built, last

LIMIT = 10 ** 10
FAR_OFF = (-1, 0, 9, FAR, -FAR)
NO_LOADS = built([4, 0, 6], [], [])
NO_PERIODS = [("open", 1), ("base", 1, 7), ("load", 2, [2]), ("load", 0, [5]), ("pass", [2, 0])]
NOTHING = [("open", 1), ("pass", [])]
FULL = built([MOST] * 8, [MOST] * 8, [[MOST] * 8] * 8)
PILED = built([MOST] * 8, [MOST] * 8, [[0] * 7 + [MOST]] * 8)
# 2 loads in 2 periods: load 1 can't wait, load 2 can.
TWO = built([0, 1], [3, 2], [[3, 0], [2, 2]])
EVERY = (
    ("top", 2), ("squares",), ("forced", [1, 3]), ("because",), ("check", [0, 2, 2, 0, 1, 1]), ("check", [9]),
    ("slack", 2, 1), ("fits", 3), ("could", 1), ("info", 2), ("state",),
)


class Top(Calls):

    def test_of_a_house(self):
        for k, answer in ((1, 4), (2, 7), (3, 10), (4, 10), (8, 10)):
            self.changes_nothing(SOME, ("top", k), [0, answer])

    def test_the_greatest_are_taken_wherever_they_are(self):
        given = ask(*built([5, 1, 7, 0, 6], [], []), *[("top", k) for k in range(1, 9)])
        self.assertEqual([answer[1] for answer in given[-8:]], [7, 13, 18, 19, 19, 19, 19, 19])

    def test_8_periods(self):
        given = ask(*built(list(range(1, 9)), [], []), *[("top", k) for k in range(1, 9)])
        self.assertEqual([answer[1] for answer in given[-8:]], [8, 15, 21, 26, 30, 33, 35, 36])

    def test_out_of_range(self):
        for k in FAR_OFF:
            self.refused(SOME, ("top", k), -1)
            self.refused([], ("top", k), -1)
            self.refused(NOTHING, ("top", k), -1)

    def test_no_loads_and_no_periods(self):
        self.changes_nothing(NO_LOADS, ("top", 2), [0, 10])
        for k in (1, 8):
            self.changes_nothing(NO_PERIODS, ("top", k), [0, 0])
            self.changes_nothing(NOTHING, ("top", k), [0, 0])

    def test_great_totals(self):
        for k in range(1, 9):
            self.answers_to(FULL + [("top", k)], [0, 2 * MOST * k])
            self.answers_to(PILED + [("top", k)], [0, (8 + k) * MOST])


class Squares(Calls):

    def test_of_a_house(self):
        self.changes_nothing(SOME, ("squares",), [0, 34])
        self.changes_nothing(TWO, ("squares",), [0, 18])

    def test_no_loads_and_no_periods(self):
        self.changes_nothing(NO_LOADS, ("squares",), [0, 52])
        self.changes_nothing(NO_PERIODS, ("squares",), [0, 0])
        self.changes_nothing(NOTHING, ("squares",), [0, 0])

    def test_great_totals(self):
        self.answers_to(FULL + [("squares",)], [0, 32 * 10 ** 18])
        self.answers_to(PILED + [("squares",)], [0, 88 * 10 ** 18])
        near = built([MOST - 1] * 8, [MOST - 1] * 8, [[0] * 7 + [MOST - 1]] * 8)
        self.answers_to(near + [("squares",)], [0, 88 * (10 ** 18 - 2 * 10 ** 9 + 1)])

    def test_great_totals_that_do_not_divide(self):
        uneven = built([MOST] * 7 + [MOST - 1], [MOST] * 8, [[MOST] * 8] * 8)
        self.answers_to(uneven + [("squares",)], [0, 7 * 4 * 10 ** 18 + (2 * 10 ** 9 - 1) ** 2])


class Forced(Calls):

    def test_of_a_house(self):
        for periods, forced, mean in (([1], 0, 3), ([2], 1, 1), ([1, 2], 3, 3), ([3], 0, 1), ([1, 3], 2, 3),
                                      ([2, 3], 4, 3), ([1, 2, 3], 6, 4)):
            self.changes_nothing(SOME, ("forced", periods), [0, forced, mean])

    def test_the_mean_is_rounded_up(self):
        for base, mean in ((0, 0), (1, 1), (2, 1), (3, 1), (4, 2), (6, 2), (7, 3)):
            self.answers_to([("open", 3), ("base", 2, base), ("forced", [1, 2, 3])], [0, 0, mean])

    def test_no_load_forces_less_than_0(self):
        before = built([0, 0], [1, 5], [[0, 9], [5, 0]])
        self.answers_to(before + [("forced", [1])], [0, 5, 5])
        self.answers_to(before + [("forced", [2])], [0, 1, 1])

    def test_an_empty_row(self):
        for before in (SOME, NO_LOADS, NO_PERIODS, NOTHING):
            self.refused(before, ("forced", []), -7)

    def test_numbers_that_do_not_grow(self):
        for periods in ([1, 1], [2, 1], [1, 3, 2], [3, 2, 1], [1, 2, 2], [2, 3, 1], [1] * 8):
            self.refused(SOME, ("forced", periods), -7)

    def test_a_period_that_is_not_looked_at(self):
        for periods in ([4], [8], [1, 4], [1, 2, 3, 4], [1, 2, 8], [4, 3], [5, 4]):
            self.refused(SOME, ("forced", periods), -7)
        self.refused(NOTHING, ("forced", [1]), -7)

    def test_8_and_9_numbers(self):
        eight = built([1] * 8, [8], [[1] * 8])
        self.changes_nothing(eight, ("forced", list(range(1, 9))), [0, 8, 2])
        self.refused(eight, ("forced", list(range(1, 10))), -1)
        self.refused(eight, ("forced", [1] * 9), -1)
        self.refused(eight, ("forced", [1] * 200), -1)
        self.refused(SOME, ("forced", list(range(1, 9))), -7)

    def test_out_of_range_goes_ahead(self):
        for period in FAR_OFF:
            for periods in ([period], [1, period], [2, 1, period], [4, period], [period, 3]):
                self.refused(SOME, ("forced", periods), -1)
        self.refused([], ("forced", [0]), -1)
        self.refused([], ("forced", []), -2)

    def test_no_loads(self):
        self.changes_nothing(NO_LOADS, ("forced", [1, 3]), [0, 0, 5])

    def test_great_amounts(self):
        self.answers_to(FULL + [("forced", list(range(1, 9)))], [0, 8 * MOST, 2 * MOST])
        self.answers_to(FULL + [("forced", list(range(1, 8)))], [0, 0, MOST])
        self.answers_to(PILED + [("forced", [8])], [0, 8 * MOST, 9 * MOST])
        self.answers_to(PILED + [("forced", [1, 8])], [0, 8 * MOST, 5 * MOST])


class Because(Calls):

    def test_of_a_house(self):
        self.changes_nothing(SOME, ("because",), [0, 1, 2, 3])
        self.changes_nothing(TWO, ("because",), [0, 1])

    def test_the_set_comes_in_the_order_of_its_code(self):
        self.answers_to(built([5, 5, 5], [], []) + [("because",)], [0, 1])
        self.answers_to(built([0, 5, 5], [], []) + [("because",)], [0, 2])
        self.answers_to(built([0, 0, 3], [4], [[2, 2, 0]]) + [("because",)], [0, 3])
        self.answers_to(built([0, 0, 2], [4], [[3, 3, 0]]) + [("because",)], [0, 1, 2])
        self.answers_to(built([0, 0, 2], [3], [[3, 3, 0]]) + [("because",)], [0, 1, 2])

    def test_all_is_0(self):
        self.answers_to([("open", 3), ("because",)], [0, 1])

    def test_no_loads_and_no_periods(self):
        self.changes_nothing(NO_LOADS, ("because",), [0, 3])
        self.changes_nothing(NO_PERIODS, ("because",), [0])
        self.changes_nothing(NOTHING, ("because",), [0])

    def test_great_amounts(self):
        self.answers_to(FULL + [("because",)], [0, 1, 2, 3, 4, 5, 6, 7, 8])
        self.answers_to(PILED + [("because",)], [0, 8])


class Check(Calls):

    def test_the_plan_s_own_shares(self):
        self.changes_nothing(SOME, ("check", [0, 2, 2, 0, 1, 1]), [0, 1, 4, 34])

    def test_other_schedules(self):
        self.changes_nothing(SOME, ("check", [2, 2, 0, 0, 2, 0]), [0, 1, 5, 42])
        self.changes_nothing(SOME, ("check", [2, 0, 2, 0, 1, 1]), [0, 1, 5, 42])
        self.changes_nothing(TWO, ("check", [3, 0, 2, 0]), [0, 1, 5, 26])

    def test_above_a_room(self):
        self.changes_nothing(SOME, ("check", [3, 1, 0, 0, 1, 1]), [0, 0])
        self.changes_nothing(SOME, ("check", [0, 2, 2, 1, 1, 0]), [0, 0])
        self.changes_nothing(SOME, ("check", [0, 2, 2, 0, 0, 2]), [0, 0])

    def test_needs_not_met(self):
        self.changes_nothing(SOME, ("check", [0, 2, 1, 0, 1, 1]), [0, 0])
        self.changes_nothing(SOME, ("check", [1, 2, 2, 0, 1, 1]), [0, 0])
        self.changes_nothing(SOME, ("check", [0, 2, 2, 0, 3, 0]), [0, 0])
        self.changes_nothing(SOME, ("check", [0, 2, 1, 0, 2, 1]), [0, 0])
        self.changes_nothing(SOME, ("check", [0] * 6), [0, 0])

    def test_too_few_and_too_many(self):
        for amounts in ([], [0, 2, 2], [0, 2, 2, 0, 1], [0, 2, 2, 0, 1, 1, 0], [0, 2, 2, 0, 1, 1] + [0] * 58):
            self.changes_nothing(SOME, ("check", amounts), [0, 0])
        self.changes_nothing(NO_LOADS, ("check", [0, 0, 0]), [0, 0])

    def test_no_loads(self):
        self.changes_nothing(NO_LOADS, ("check", []), [0, 1, 6, 52])
        self.changes_nothing(NO_LOADS, ("check", [0]), [0, 0])

    def test_no_periods(self):
        for before in (NO_PERIODS, NOTHING):
            self.changes_nothing(before, ("check", []), [0, 1, 0, 0])
            self.changes_nothing(before, ("check", [0]), [0, 0])

    def test_64_and_65_numbers(self):
        plan = [MOST if load == period else 0 for load in range(8) for period in range(8)]
        self.changes_nothing(FULL, ("check", plan), [0, 1, 2 * MOST, 32 * 10 ** 18])
        self.changes_nothing(FULL, ("check", ([MOST] + [0] * 7) * 8), [0, 1, 9 * MOST, 88 * 10 ** 18])
        self.changes_nothing(FULL, ("check", ([MOST] + [0] * 6 + [MOST]) * 8), [0, 0])
        self.changes_nothing(SOME, ("check", [0] * 64), [0, 0])
        for many in (65, 66, 200):
            self.refused(FULL, ("check", [0] * many), -1)
            self.refused(SOME, ("check", [0] * many), -1)
        self.refused([], ("check", [0] * 64), -2)

    def test_out_of_range(self):
        for amount in (-1, MOST + 1, FAR, -FAR):
            for amounts in ([amount], [0, 2, 2, 0, 1, amount], [amount, 2, 2, 0, 1, 1], [0] * 63 + [amount]):
                self.refused(SOME, ("check", amounts), -1)
        self.refused([], ("check", [-1]), -1)
        # As a sum this would be load 1's need.
        self.refused(SOME, ("check", [3, 2, -1, 0, 1, 1]), -1)


class Slack(Calls):

    def test_of_a_house(self):
        for source, to, answer in ((1, 2, 0), (1, 3, 0), (2, 1, 2), (2, 3, 0), (3, 1, 2), (3, 2, 1)):
            self.changes_nothing(SOME, ("slack", source, to), [0, answer])

    def test_by_way_of_another_period(self):
        # Load 1 goes from 1 to 2, load 2 from 2 to 3.
        before = built([0, 0, 0], [2, 2], [[2, 2, 0], [0, 2, 2]])
        self.answers_to(before + [("amounts",)], [0, 1, 1, 2])
        self.answers_to(before + [("slack", 2, 1)], [0, 1])
        self.answers_to(before + [("slack", 3, 1)], [0, 1])
        self.answers_to(before + [("slack", 1, 3)], [0, 0])
        self.answers_to(before + [("need", 1, 3), ("amounts",)], [0, 1, 2, 2])
        self.answers_to(before + [("need", 1, 3), ("slack", 3, 1)], [0, 1])

    def test_a_period_that_is_not_looked_at(self):
        for source, to in ((4, 1), (1, 4), (8, 3), (3, 8), (4, 5)):
            self.refused(SOME, ("slack", source, to), -8)
        self.refused(NO_PERIODS, ("slack", 1, 2), -8)

    def test_the_same(self):
        for period in (1, 2, 3):
            self.refused(SOME, ("slack", period, period), -7)

    def test_not_looked_at_goes_ahead_of_the_same(self):
        self.refused(SOME, ("slack", 4, 4), -8)
        self.refused(SOME, ("slack", 8, 8), -8)
        self.refused(NOTHING, ("slack", 1, 1), -8)

    def test_out_of_range_goes_ahead(self):
        for period in FAR_OFF:
            for source, to in ((period, 1), (1, period), (period, period), (period, 4), (4, period)):
                self.refused(SOME, ("slack", source, to), -1)
        self.refused([], ("slack", 0, 0), -1)
        self.refused([], ("slack", 4, 4), -2)

    def test_no_loads(self):
        self.changes_nothing(NO_LOADS, ("slack", 3, 1), [0, 0])
        self.refused(NO_LOADS, ("slack", 3, 3), -7)

    def test_periods_8_and_great_amounts(self):
        self.answers_to(FULL + [("slack", 8, 1)], [0, MOST])
        self.answers_to(FULL + [("slack", 1, 8)], [0, MOST])
        self.answers_to(PILED + [("slack", 8, 1)], [0, 0])
        self.answers_to(built([MOST, 0], [MOST] * 8, [[MOST] * 2] * 8) + [("slack", 2, 1)], [0, 9 * MOST // 2])


class Fits(Calls):

    def test_of_a_house(self):
        for limit, answer in ((0, 0), (3, 0), (4, 1), (5, 1), (LIMIT, 1)):
            self.changes_nothing(SOME, ("fits", limit), [0, answer])

    def test_limits(self):
        self.answers_to([("open", 1), ("fits", 0)], [0, 1])
        self.answers_to([("open", 1), ("base", 1, 1), ("fits", 0)], [0, 0])
        self.answers_to(PILED + [("fits", LIMIT)], [0, 1])
        self.answers_to(PILED + [("fits", 9 * MOST)], [0, 1])
        self.answers_to(PILED + [("fits", 9 * MOST - 1)], [0, 0])

    def test_out_of_range(self):
        for limit in (-1, LIMIT + 1, FAR, -FAR):
            for before in ([], SOME, NO_PERIODS):
                self.refused(before, ("fits", limit), -1)

    def test_no_loads_and_no_periods(self):
        self.changes_nothing(NO_LOADS, ("fits", 5), [0, 0])
        self.changes_nothing(NO_LOADS, ("fits", 6), [0, 1])
        for limit in (0, LIMIT):
            self.changes_nothing(NO_PERIODS, ("fits", limit), [0, 1])
            self.changes_nothing(NOTHING, ("fits", limit), [0, 1])


class Could(Calls):

    def test_of_a_house(self):
        self.changes_nothing(SOME, ("could", 1), [0, 5])
        self.changes_nothing(SOME, ("could", 2), [0, 4])
        self.changes_nothing(TWO, ("could", 1), [0, 3])
        self.changes_nothing(TWO, ("could", 2), [0, 2])

    def test_no_such_load(self):
        self.refused(SOME, ("could", 3), -5)
        self.refused(SOME, ("could", 8), -5)
        self.refused(NO_LOADS, ("could", 1), -5)
        self.refused(NO_PERIODS, ("could", 3), -5)
        self.refused(NOTHING, ("could", 1), -5)

    def test_out_of_range_goes_ahead(self):
        for load in FAR_OFF:
            for before in ([], SOME, NOTHING):
                self.refused(before, ("could", load), -1)
        self.refused([], ("could", 8), -2)

    def test_up_to_its_rooms(self):
        self.answers_to(built([9, 0], [1], [[0, 4]]) + [("could", 1)], [0, 4])
        self.answers_to(built([9, 0], [1], [[2, 4]]) + [("could", 1)], [0, 4])
        self.answers_to(built([9, 0], [0], [[0, 0]]) + [("could", 1)], [0, 0])

    def test_up_to_the_greatest_amount(self):
        before = built([MOST, 0, 0], [0], [[0, MOST, MOST]])
        self.answers_to(before + [("could", 1)], [0, MOST])
        self.answers_to(before + [("room", 1, 2, 1), ("room", 1, 3, MOST - 2), ("could", 1)], [0, MOST - 1])
        self.answers_to(before + [("room", 1, 2, 1), ("could", 1)], [0, MOST])
        self.answers_to(before + [("base", 2, MOST), ("base", 3, 1), ("could", 1)], [0, MOST - 1])

    def test_the_peak_is_0(self):
        self.answers_to(built([0, 0], [0], [[5, 5]]) + [("could", 1)], [0, 0])

    def test_no_periods(self):
        self.changes_nothing(NO_PERIODS, ("could", 1), [0, 0])
        self.changes_nothing(NO_PERIODS, ("could", 2), [0, 0])

    def test_8_loads(self):
        for load in range(1, 9):
            self.answers_to(FULL + [("could", load)], [0, MOST])

    def test_what_rounding_up_leaves(self):
        # All can go anywhere: what's put is 8 times some number and 6 more, so that 2 are left below the peak.
        for load in range(1, 8):
            self.answers_to(FULL + [("need", 8, 3), ("need", load, 0), ("base", 8, 3), ("could", load)], [0, 2])
        self.answers_to(FULL + [("need", 8, 0), ("base", 8, 3), ("could", 8)], [0, 5])


class Info(Calls):

    def test_of_a_house(self):
        self.changes_nothing(SOME, ("info", 1), [0, 4, 2, 2, 2])
        self.changes_nothing(SOME, ("info", 2), [0, 2, 0, 5, 1])

    def test_after_changes(self):
        self.answers_to(SOME + [("need", 1, 3), ("room", 1, 2, 7), ("info", 1)], [0, 3, 2, 7, 2])
        self.answers_to(SOME + [("add",), ("info", 2)], [0, 2, 0, 5, 1, 0])
        self.answers_to(SOME + [("pass", [1, 0]), ("info", 1)], [0, 3, 2, 2])

    def test_no_such_load(self):
        self.refused(SOME, ("info", 3), -5)
        self.refused(SOME, ("info", 8), -5)
        self.refused(NO_LOADS, ("info", 1), -5)
        self.refused(NO_PERIODS, ("info", 3), -5)
        self.refused(NOTHING, ("info", 1), -5)

    def test_out_of_range_goes_ahead(self):
        for load in FAR_OFF:
            for before in ([], SOME, NOTHING):
                self.refused(before, ("info", load), -1)
        self.refused([], ("info", 8), -2)

    def test_no_periods(self):
        self.changes_nothing(NO_PERIODS, ("info", 1), [0, 0])
        self.changes_nothing(NO_PERIODS, ("info", 2), [0, 0])

    def test_8_loads_and_8_periods(self):
        rooms = [[MOST - 8 * load - period for period in range(8)] for load in range(8)]
        calls = built([0] * 8, range(8), rooms)
        for load in range(8):
            self.answers_to(calls + [("info", load + 1)], [0, load] + rooms[load])


class State(Calls):

    def test_of_a_house(self):
        self.changes_nothing(SOME, ("state",), [0, 3, 2, 0, 3, 0, 1])

    def test_after_changes(self):
        self.answers_to(SOME + [("add",), ("base", 2, 9), ("load", 0, [0] * 4), ("state",)], [0, 4, 3, 0, 3, 9, 1, 0])
        self.answers_to(SOME + [("pass", [1, 0]), ("state",)], [0, 2, 2, 1, 0, 1])
        self.answers_to(SOME + [("pass", [2, 0]), ("pass", [0, 1]), ("state",)], [0, 1, 2, 2, 1])

    def test_passed_goes_on_beyond_8(self):
        calls = [("open", 1)] + [("pass", []), ("add",)] * 90
        self.answers_to(calls + [("state",)], [0, 1, 0, 90, 0])

    def test_no_loads_and_no_periods(self):
        self.changes_nothing(NO_LOADS, ("state",), [0, 3, 0, 0, 4, 0, 6])
        self.changes_nothing(NO_PERIODS, ("state",), [0, 0, 2, 1])
        self.changes_nothing(NOTHING, ("state",), [0, 0, 0, 1])

    def test_8_loads_and_8_periods(self):
        self.answers_to(FULL + [("state",)], [0, 8, 8, 0] + [MOST] * 8)


class Together(Calls):

    def test_every_question_twice_and_the_plan_between(self):
        given = ask(*SOME, *EVERY, *SHOWN, *EVERY, *SHOWN)
        half = len(EVERY) + len(SHOWN)
        self.assertEqual(given[-half:], given[-2 * half:-half])
        self.assertEqual([answer[0] for answer in given], [0] * len(given))

    def test_refused_while_not_open_and_answered_behind(self):
        given = ask(*EVERY, ("open", 3), *EVERY)
        self.assertEqual(given[:len(EVERY)], [[-2]] * len(EVERY))
        self.assertEqual(given[len(EVERY) + 1:], [
            [0, 0], [0, 0], [0, 0, 0], [0, 1], [0, 0], [0, 0], [0, 0], [0, 1], [-5], [-5], [0, 3, 0, 0, 0, 0, 0]])

    def test_every_change_is_seen(self):
        for change in (("base", 1, 0), ("need", 1, 2), ("room", 1, 2, 0), ("add",), ("load", 3, [3, 0, 0]),
                       ("pass", [0, 0])):
            before = ask(*SOME, *EVERY)[len(SOME):]
            after = ask(*SOME, change, *EVERY)[len(SOME) + 1:]
            self.assertNotEqual(before, after, change)

    def test_fits_and_check_answer_whole_numbers(self):
        for call in (("fits", 3), ("fits", 4), ("check", []), ("check", [0, 2, 2, 0, 1, 1])):
            self.assertEqual({type(number) for number in last(*SOME, call)}, {int})


if __name__ == "__main__":
    unittest.main()
