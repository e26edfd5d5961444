"""The questions about the plan against a plain search through all schedules, and by a flow where that's too long."""

import itertools
import random
import unittest

from helper import (
    MOST, ask, built, can_be_amounts, forced_into, mean_of, random_house, searched, sets_of, totals_of, ways_of,
)


def amounts_of_all(needs, rooms, periods):
    """The amounts of all schedules, each once."""
    found = {(0,) * periods}
    for need, row in zip(needs, rooms):
        ways = ways_of(need, row)
        found = {tuple(a + b for a, b in zip(before, way)) for before in found for way in ways}
    return found


def totals_of_all(bases, needs, rooms):
    return [[base + amount for base, amount in zip(bases, amounts)]
            for amounts in amounts_of_all(needs, rooms, len(bases))]


def plan_among(all_totals):
    return min(all_totals, key=lambda totals: (sorted(totals, reverse=True), totals))


def slack_tried(amounts, possible, source, to):
    """The greatest number that can be moved, by trying each one there is."""
    fitting = []
    for moved in range(amounts[source - 1] + 1):
        changed = list(amounts)
        changed[source - 1] -= moved
        changed[to - 1] += moved
        if tuple(changed) in possible:
            fitting.append(moved)
    return max(fitting)


def could_tried(bases, needs, rooms, load, peak):
    """The greatest need with which the peak isn't above what it is, by trying each one there is."""
    fitting = []
    for need in range(sum(rooms[load - 1]) + 1):
        changed = list(needs)
        changed[load - 1] = need
        if min(max(totals) for totals in totals_of_all(bases, changed, rooms)) <= peak:
            fitting.append(need)
    return max(fitting)


def because_tried(bases, needs, rooms, peak):
    """The first set whose mean is the peak, by going through all sets in their order."""
    for chosen in sets_of(len(bases)):
        if mean_of(bases, needs, rooms, chosen) == peak:
            return chosen
    raise AssertionError("no set's mean is the peak")


class Questions(unittest.TestCase):

    def asked(self, house, calls):
        """The answers to the calls, without the 0."""
        given = ask(*built(*house), *calls)[-len(calls):] if calls else []
        self.assertEqual([answer[0] for answer in given], [0] * len(calls), house)
        return [answer[1:] for answer in given]

    def plan_is_asked(self, house):
        all_totals = totals_of_all(*house)
        totals = plan_among(all_totals)
        falling = sorted(totals, reverse=True)
        tops = [[sum(falling[:k])] for k in range(1, 9)]
        self.assertEqual(self.asked(house, [("top", k) for k in range(1, 9)]), tops, house)
        self.assertEqual(self.asked(house, [("squares",)]), [[sum(total ** 2 for total in totals)]], house)
        # That the plan is the most level in every sense at once is promised too.
        for k in range(1, 9):
            self.assertEqual(tops[k - 1][0], min(sum(sorted(each, reverse=True)[:k]) for each in all_totals), house)
        limits = range(falling[0] + 3)
        fits = [[1 if any(max(each) <= limit for each in all_totals) else 0] for limit in limits]
        self.assertEqual(self.asked(house, [("fits", limit) for limit in limits]), fits, house)
        self.assertEqual(self.asked(house, [("because",)]), [because_tried(*house, falling[0])], house)

    def slack_is_asked(self, house):
        bases, needs, rooms = house
        possible = amounts_of_all(needs, rooms, len(bases))
        amounts = [total - base for total, base in zip(plan_among(totals_of_all(*house)), bases)]
        pairs = list(itertools.permutations(range(1, len(bases) + 1), 2))
        expected = [[slack_tried(amounts, possible, source, to)] for source, to in pairs]
        self.assertEqual(self.asked(house, [("slack", source, to) for source, to in pairs]), expected, house)

    def could_is_asked(self, house):
        peak = max(plan_among(totals_of_all(*house)))
        loads = range(1, len(house[1]) + 1)
        expected = [[could_tried(*house, load, peak)] for load in loads]
        self.assertEqual(self.asked(house, [("could", load) for load in loads]), expected, house)

    def sets_are_asked(self, house):
        bases, needs, rooms = house
        sets = sets_of(len(bases))
        expected = [[forced_into(needs, rooms, chosen), mean_of(*house, chosen)] for chosen in sets]
        given = []
        for at in range(0, len(sets), 100):
            given += self.asked(house, [("forced", chosen) for chosen in sets[at:at + 100]])
        self.assertEqual(given, expected, house)

    def rows_are_checked(self, house, rows):
        """Each row of amounts is looked up among all schedules."""
        bases, needs, rooms = house
        schedules = set(itertools.product(*[ways_of(need, row) for need, row in zip(needs, rooms)]))
        for row in rows:
            ways = tuple(tuple(row[at:at + len(bases)]) for at in range(0, len(row), len(bases)))
            expected = [0]
            if ways in schedules:
                totals = totals_of(bases, ways)
                expected = [1, max(totals), sum(total ** 2 for total in totals)]
            self.assertEqual(self.asked(house, [("check", list(row))]), [expected], (house, row))


class Small(Questions):

    def test_top_squares_fits_and_because(self):
        chance = random.Random(11)
        for _ in range(400):
            self.plan_is_asked(random_house(chance, 3, 4, 4))
        for _ in range(400):
            self.plan_is_asked(random_house(chance, 3, 4, 1))

    def test_slack(self):
        chance = random.Random(12)
        for _ in range(400):
            self.slack_is_asked(random_house(chance, 3, 4, 4))
        for _ in range(400):
            self.slack_is_asked(random_house(chance, 3, 4, 1))

    def test_could(self):
        chance = random.Random(13)
        for _ in range(100):
            self.could_is_asked(random_house(chance, 3, 4, 3))
        for _ in range(400):
            self.could_is_asked(random_house(chance, 3, 4, 1))
        for _ in range(200):
            self.could_is_asked(random_house(chance, 3, 2, 4))

    def test_could_with_needs_up_to_the_rooms(self):
        chance = random.Random(14)
        for _ in range(150):
            bases, needs, rooms = random_house(chance, 2, 4, 4)
            self.could_is_asked((bases, [chance.randint(0, sum(row)) for row in rooms], rooms))

    def test_every_house_of_one_load_and_two_periods(self):
        for rooms in itertools.product(range(4), repeat=2):
            for need in range(sum(rooms) + 1):
                for bases in itertools.product(range(3), repeat=2):
                    house = (list(bases), [need], [list(rooms)])
                    self.plan_is_asked(house)
                    self.slack_is_asked(house)
                    self.could_is_asked(house)
                    self.sets_are_asked(house)

    def test_forced(self):
        chance = random.Random(15)
        for _ in range(300):
            house = random_house(chance, 3, 4, 4)
            self.sets_are_asked(house)
            possible = amounts_of_all(house[1], house[2], len(house[0]))
            for chosen in sets_of(len(house[0])):
                least = min(sum(amounts[period - 1] for period in chosen) for amounts in possible)
                self.assertEqual(forced_into(house[1], house[2], chosen), least, (house, chosen))

    def test_check_of_every_row(self):
        for rooms in itertools.product(range(3), repeat=2):
            for need in range(sum(rooms) + 1):
                house = ([1, 0], [need, 1], [list(rooms), [1, 1]])
                self.rows_are_checked(house, itertools.product(range(4), range(4), range(2), range(2)))

    def test_check_of_random_rows(self):
        chance = random.Random(16)
        for _ in range(60):
            house = random_house(chance, 2, 4, 3)
            size = len(house[0]) * len(house[1])
            rows = [[chance.randint(0, 3) for _ in range(size)] for _ in range(5)]
            ways = [chance.choice(ways_of(need, row)) for need, row in zip(house[1], house[2])]
            rows.append([amount for way in ways for amount in way])
            rows.append(searched(*house)[1])
            self.rows_are_checked(house, rows)


class Great(Questions):

    def houses(self, seed, near, how_many):
        chance = random.Random(seed)
        for _ in range(how_many):
            bases = [chance.choice((0, MOST - chance.randint(0, near))) for _ in range(8)]
            rooms = [[chance.choice((0, MOST - chance.randint(0, near))) for _ in range(8)] for _ in range(8)]
            yield bases, [min(sum(row), chance.choice((0, MOST - chance.randint(0, near)))) for row in rooms], rooms

    def all_houses(self, seed, how_many):
        for near in (1, 1000, MOST):
            yield from self.houses(seed, near, how_many)

    def test_the_flow_knows_schedules_from_what_is_none(self):
        chance = random.Random(21)
        for _ in range(60):
            bases, needs, rooms = random_house(chance, 3, 3, 2)
            possible = amounts_of_all(needs, rooms, len(bases))
            for amounts in itertools.product(range(4), repeat=len(bases)):
                self.assertEqual(can_be_amounts(list(amounts), needs, rooms), amounts in possible)

    def test_slack(self):
        for house in self.all_houses(22, 2):
            amounts = self.asked(house, [("amounts",)])[0]
            pairs = list(itertools.permutations(range(1, 9), 2))
            given = self.asked(house, [("slack", source, to) for source, to in pairs])
            for (source, to), answer in zip(pairs, given):
                for more, fitting in ((0, True), (1, False)):
                    changed = list(amounts)
                    changed[source - 1] -= answer[0] + more
                    changed[to - 1] += answer[0] + more
                    self.assertEqual(can_be_amounts(changed, house[1], house[2]), fitting, (house, source, to))

    def test_could(self):
        for house in self.all_houses(23, 6):
            peak = self.asked(house, [("peak",)])[0]
            given = self.asked(house, [("could", load) for load in range(1, 9)])
            for load, answer in enumerate(given, 1):
                could = answer[0]
                self.assertEqual(self.asked(house, [("need", load, could), ("peak",)])[1], peak, (house, load))
                if could < min(MOST, sum(house[2][load - 1])):
                    more = self.asked(house, [("need", load, could + 1), ("peak",)])[1]
                    self.assertGreater(more, peak, (house, load))

    def test_because_and_forced(self):
        for house in self.all_houses(24, 3):
            peak = self.asked(house, [("peak",)])[0][0]
            self.assertEqual(self.asked(house, [("because",)])[0], because_tried(*house, peak), house)
            self.assertEqual(max(mean_of(*house, chosen) for chosen in sets_of(8)), peak, house)
            self.sets_are_asked(house)

    def test_top_squares_fits_and_check(self):
        for house in self.all_houses(25, 10):
            totals, shares, squares = self.asked(house, [("totals",), ("shares",), ("squares",)])
            falling = sorted(totals, reverse=True)
            self.assertEqual(squares, [sum(total ** 2 for total in totals)])
            self.assertEqual(self.asked(house, [("check", shares)]), [[1, falling[0]] + squares])
            tops = self.asked(house, [("top", k) for k in range(1, 9)])
            self.assertEqual(tops, [[sum(falling[:k])] for k in range(1, 9)])
            limits = [("fits", falling[0] + more) for more in (-1, 0, 1) if falling[0] + more >= 0]
            self.assertEqual(self.asked(house, limits), [[0], [1], [1]][-len(limits):])


if __name__ == "__main__":
    unittest.main()
