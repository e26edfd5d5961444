"""The plan against a plain search through all schedules, and by exchanges where that's too long."""

import itertools
import random
import unittest

from helper import MOST, faults, plan_of, random_house, searched, ways_of


def schedules_of(needs, rooms):
    count = 1
    for need, row in zip(needs, rooms):
        count *= len(ways_of(need, row))
    return count


class Plan(unittest.TestCase):

    def same_as_searched(self, bases, needs, rooms):
        totals, shares = searched(bases, needs, rooms)
        amounts = [total - base for total, base in zip(totals, bases)]
        given = plan_of(bases, needs, rooms)
        self.assertEqual(given, [totals, amounts, shares, [max(totals)]], (bases, needs, rooms))

    def without_faults(self, bases, needs, rooms):
        totals, amounts, shares, peak = plan_of(bases, needs, rooms)
        self.assertEqual(faults(bases, needs, rooms, totals, shares), [], (bases, needs, rooms))
        self.assertEqual(amounts, [total - base for total, base in zip(totals, bases)])
        self.assertEqual(peak, [max(totals)])


class Searched(Plan):

    def test_many_houses(self):
        chance = random.Random(1)
        tried = 0
        while tried < 1500:
            house = random_house(chance, 3, 4, 4)
            if schedules_of(house[1], house[2]) <= 3000:
                tried += 1
                self.same_as_searched(*house)

    def test_many_houses_with_small_amounts(self):
        chance = random.Random(2)
        for _ in range(1500):
            self.same_as_searched(*random_house(chance, 3, 4, 1))

    def test_few_houses_with_very_many_schedules(self):
        chance = random.Random(3)
        tried = 0
        while tried < 10:
            house = random_house(chance, 3, 4, 4)
            if 10000 <= schedules_of(house[1], house[2]) <= 60000:
                tried += 1
                self.same_as_searched(*house)

    def test_every_house_of_two_loads_and_two_periods(self):
        for rooms in itertools.product(range(3), repeat=4):
            for needs in itertools.product(range(rooms[0] + rooms[1] + 1), range(rooms[2] + rooms[3] + 1)):
                for bases in ((0, 0), (1, 0), (0, 1), (2, 0), (0, 2)):
                    self.same_as_searched(list(bases), list(needs), [list(rooms[:2]), list(rooms[2:])])

    def test_every_house_of_one_load_and_three_periods(self):
        for rooms in itertools.product(range(3), repeat=3):
            for need in range(sum(rooms) + 1):
                for bases in itertools.product(range(3), repeat=3):
                    self.same_as_searched(list(bases), [need], [list(rooms)])


class Told(Plan):

    def test_one_load_is_put_level(self):
        self.assertEqual(plan_of([0, 0, 0], [6], [[5, 5, 5]]), [[2, 2, 2], [2, 2, 2], [2, 2, 2], [2]])

    def test_the_base_is_filled_up(self):
        self.assertEqual(plan_of([5, 1, 3], [4], [[9, 9, 9]]), [[5, 4, 4], [0, 3, 1], [0, 3, 1], [5]])

    def test_of_equal_totals_the_earliest_is_least(self):
        self.assertEqual(plan_of([0, 0, 0], [4], [[5, 5, 5]])[0], [1, 1, 2])
        self.assertEqual(plan_of([0, 0, 0], [5], [[5, 5, 5]])[0], [1, 2, 2])

    def test_period_1_least_goes_ahead_of_period_2(self):
        self.assertEqual(plan_of([0, 0, 0], [1, 1], [[1, 1, 0], [0, 1, 1]])[0], [0, 1, 1])
        self.assertEqual(plan_of([0, 0, 0], [1], [[0, 1, 1]])[0], [0, 0, 1])
        self.assertEqual(plan_of([0, 0, 0], [1], [[1, 1, 0]])[0], [0, 1, 0])

    def test_what_is_below_the_peak_is_level_too(self):
        self.assertEqual(plan_of([9, 0, 0, 0], [6], [[9, 9, 9, 9]])[0], [9, 2, 2, 2])

    def test_an_earlier_period_does_not_get_less_by_more_at_the_peak(self):
        self.assertEqual(plan_of([0, 0, 0], [3, 1], [[0, 2, 2], [1, 1, 1]])[0], [1, 1, 2])
        self.assertEqual(plan_of([1, 3, 2], [1], [[1, 0, 1]])[0], [2, 3, 2])

    def test_load_1_gets_most_in_period_1(self):
        self.assertEqual(plan_of([0, 0], [2, 2], [[2, 2], [2, 2]])[2], [2, 0, 0, 2])
        self.assertEqual(plan_of([0, 0, 0], [2, 2, 2], [[2, 2, 2]] * 3)[2], [2, 0, 0, 0, 2, 0, 0, 0, 2])

    def test_shares_leave_room_for_the_loads_behind(self):
        self.assertEqual(plan_of([0, 0], [2, 2], [[2, 2], [2, 0]])[2], [0, 2, 2, 0])
        self.assertEqual(plan_of([0, 0], [3, 3], [[3, 3], [2, 3]])[2], [3, 0, 0, 3])
        self.assertEqual(plan_of([0, 0], [3, 3], [[3, 3], [3, 1]])[2], [1, 2, 2, 1])

    def test_peak_of_a_house_that_is_all_0(self):
        self.assertEqual(plan_of([0, 0], [0], [[0, 0]]), [[0, 0], [0, 0], [0, 0], [0]])


class Exchanged(Plan):

    def test_the_check_by_exchanges_knows_the_plan_from_what_is_not(self):
        chance = random.Random(4)
        for _ in range(200):
            house = random_house(chance, 2, 3, 2)
            totals, shares = searched(*house)
            self.assertEqual(faults(*house, totals, shares), [])
        self.assertNotEqual(faults([0, 0], [2], [[2, 2]], [0, 2], [0, 2]), [])
        self.assertNotEqual(faults([0, 0], [1], [[2, 2]], [1, 0], [1, 0]), [])
        self.assertNotEqual(faults([0, 0], [1, 1], [[1, 1], [1, 1]], [1, 1], [0, 1, 1, 0]), [])

    def test_8_loads_and_8_periods_with_small_amounts(self):
        chance = random.Random(5)
        for most in (1, 1, 2, 3, 5, 9):
            for _ in range(8):
                bases = [chance.randint(0, most) for _ in range(8)]
                rooms = [[chance.choice((0, chance.randint(0, most))) for _ in range(8)] for _ in range(8)]
                needs = [chance.randint(0, sum(row)) for row in rooms]
                self.without_faults(bases, needs, rooms)

    def test_8_loads_and_8_periods_with_great_amounts(self):
        chance = random.Random(6)
        for near in (1, 3, 1000, 10 ** 8, MOST):
            for _ in range(8):
                bases = [MOST - chance.randint(0, near) for _ in range(8)]
                rooms = [[chance.choice((0, MOST - chance.randint(0, near))) for _ in range(8)] for _ in range(8)]
                needs = [min(sum(row), MOST - chance.randint(0, near)) for row in rooms]
                self.without_faults(bases, needs, rooms)

    def test_all_is_as_great_as_can_be(self):
        full = [MOST] * 8
        self.assertEqual(plan_of(full, full, [full] * 8)[0], [2 * MOST] * 8)
        shares = plan_of(full, full, [full] * 8)[2]
        self.assertEqual(shares, [MOST if load == period else 0 for load in range(8) for period in range(8)])
        only = [[MOST] + [0] * 7] * 8
        self.assertEqual(plan_of(full, full, only), [
            [9 * MOST] + [MOST] * 7, [8 * MOST] + [0] * 7, ([MOST] + [0] * 7) * 8, [9 * MOST]])

    def test_great_amounts_that_do_not_divide(self):
        full = [MOST] * 7
        self.assertEqual(plan_of([0] * 7, [MOST], [full])[0], [142857142] + [142857143] * 6)
        self.assertEqual(plan_of([0] * 7, [MOST], [full])[2], [142857142] + [142857143] * 6)
        self.assertEqual(plan_of([MOST] + [0] * 6, [MOST], [full])[0], [MOST] + [166666666] * 2 + [166666667] * 4)


if __name__ == "__main__":
    unittest.main()
