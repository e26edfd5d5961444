"""The edges that the document names, and the list that's handed in and given back."""

import contextlib
import io
import random
import unittest

from helper import FAR, MOST, NAMES, ask, faults, flat, last, parted
from levelloads.house import answers

BEYOND = (-1, MOST + 1, -FAR, FAR)


class Ranges(unittest.TestCase):

    def all_refused(self, before, calls):
        for call in calls:
            self.assertEqual(last(*before, call), [-1], call)

    def test_open(self):
        self.assertEqual(last(("open", 1)), [0])
        self.assertEqual(last(("open", 8)), [0])
        self.all_refused([], [("open", periods) for periods in (0, 9, -1, -8, FAR, -FAR)])
        self.all_refused([("open", 3)], [("open", periods) for periods in (0, 9, -1, FAR, -FAR)])

    def test_amounts(self):
        before = [("open", 2), ("load", MOST, [MOST, MOST])]
        for amount in (0, MOST):
            self.assertEqual(last(*before, ("load", amount, [amount, MOST])), [0, 2])
            self.assertEqual(last(*before, ("need", 1, amount)), [0])
            self.assertEqual(last(*before, ("room", 1, 2, amount)), [0])
            self.assertEqual(last(*before, ("base", 1, amount)), [0])
            self.assertEqual(last(*before, ("pass", [amount])), [0, amount])
        for amount in BEYOND:
            self.all_refused(before, [
                ("load", amount, [MOST, MOST]), ("load", 0, [amount, MOST]), ("load", 0, [MOST, amount]),
                ("need", 1, amount), ("room", 1, 2, amount), ("base", 1, amount), ("pass", [amount])])

    def test_loads(self):
        before = [("open", 1)] + [("load", 1, [1])] * 8
        for load in (1, 8):
            self.assertEqual(last(*before, ("need", load, 0)), [0])
            self.assertEqual(last(*before, ("room", load, 1, 2)), [0])
        for load in (0, 9, -1, -FAR, FAR):
            self.all_refused(before, [("need", load, 0), ("room", load, 1, 2)])
            self.all_refused(before[:1], [("need", load, 0), ("room", load, 1, 2)])

    def test_periods(self):
        before = [("open", 8), ("load", 0, [0] * 8)]
        for period in (1, 8):
            self.assertEqual(last(*before, ("room", 1, period, 1)), [0])
            self.assertEqual(last(*before, ("base", period, 1)), [0])
        for period in (0, 9, -1, -FAR, FAR):
            self.all_refused(before, [("room", 1, period, 1), ("base", period, 1)])
            self.all_refused([("open", 1)], [("room", 1, period, 1), ("base", period, 1)])

    def test_how_many_numbers_a_second_row_has(self):
        loads = [("load", 0, [0] * 8)] * 8
        self.assertEqual(last(("open", 8), ("load", 0, [])), [-7])
        self.assertEqual(last(("open", 8), ("load", 0, [0] * 8)), [0, 1])
        self.assertEqual(last(("open", 8), ("pass", [])), [0, 0])
        self.assertEqual(last(("open", 8), ("pass", [0] * 8)), [-7])
        self.assertEqual(last(("open", 8), *loads, ("pass", [])), [-7])
        self.assertEqual(last(("open", 8), *loads, ("pass", [0] * 8)), [0, 0])
        for many in (9, 10, 64, 65, 200):
            self.all_refused([("open", 8)], [("load", 0, [0] * many), ("pass", [0] * many)])
            self.all_refused([("open", 8), *loads], [("load", 0, [0] * many), ("pass", [0] * many)])

    def test_any_place_in_a_second_row(self):
        for place in range(8):
            for amount in BEYOND:
                row = [0] * place + [amount] + [0] * (7 - place)
                self.all_refused([("open", 8)], [("load", 0, row), ("pass", row)])

    def test_a_long_row_of_far_numbers(self):
        self.all_refused([("open", 8)], [("load", 0, [FAR] * 200), ("pass", [-FAR] * 200), ("load", FAR, [])])
        self.all_refused([("open", 8)], [("forced", [FAR] * 200), ("check", [-FAR] * 200)])

    def test_far_numbers_at_every_place_of_the_questions(self):
        for far in (-FAR, FAR):
            calls = [("top", far), ("slack", far, 1), ("slack", 1, far), ("fits", far), ("could", far), ("info", far)]
            calls += [("forced", [1] * place + [far]) for place in range(8)]
            calls += [("check", [0] * place + [far]) for place in range(64)]
            self.all_refused([], calls)
            self.all_refused([("open", 8), ("load", 0, [0] * 8)], calls)

    def test_8_loads_and_8_periods(self):
        rooms = [[(load * period) % 5 for period in range(8)] for load in range(1, 9)]
        needs = [sum(row) // 2 for row in rooms]
        calls = [("open", 8), *[("load", need, row) for need, row in zip(needs, rooms)]]
        given = ask(*calls, ("totals",), ("shares",), ("load", 0, [0] * 8), ("add",))
        self.assertEqual([len(answer) for answer in given[-4:]], [9, 65, 1, 1])
        self.assertEqual(given[-2:], [[-4], [-4]])
        self.assertEqual(faults([0] * 8, needs, rooms, given[-4][1:], given[-3][1:]), [])


class Handed(unittest.TestCase):

    def long_list(self):
        chance = random.Random(7)
        calls = [("open", 8)]
        calls += [("base", period, chance.randint(0, MOST)) for period in range(1, 9)]
        for _ in range(8):
            calls.append(("load", chance.randint(0, MOST), [MOST] * 8))
        while len(calls) < 200:
            calls.append(chance.choice((
                ("totals",), ("amounts",), ("shares",), ("peak",), ("add",), ("base", 1, chance.randint(0, MOST)),
                ("room", chance.randint(1, 9), chance.randint(1, 9), chance.randint(0, MOST)),
                ("need", chance.randint(1, 9), chance.randint(0, MOST)), ("load", 0, [FAR] * 150),
                ("pass", [0] * 8), ("pass", [0] * 200), *self.some_questions(chance))))
        return calls

    def some_questions(self, chance):
        return (("top", chance.randint(0, 9)), ("squares",), ("because",), ("state",),
                ("fits", chance.randint(-1, 10 ** 10)),
                ("forced", sorted(chance.sample(range(1, 9), chance.randint(0, 8)))), ("forced", [FAR] * 150),
                ("check", [0] * 64), ("check", [-FAR] * 200), ("slack", chance.randint(1, 8), chance.randint(1, 8)),
                ("could", chance.randint(1, 9)), ("info", chance.randint(1, 9)))

    def test_how_the_answers_lie(self):
        self.assertEqual(answers([5]), [1, -2])
        self.assertEqual(answers([0, 2]), [1, 0])
        self.assertEqual(answers([0, 2, 1, 3, 2, 2, 2, 7, 10, 9]), [1, 0, 2, 0, 1, 3, 0, 1, 2, 2, 0, 2, 3, 0, 1, 2])
        self.assertEqual(answers([0, 1, 6, 0, 7, 8, 9, 10]), [1, 0, 2, 0, 0, 1, 0, 1, 0, 1, 0, 2, 0, 0])
        self.assertEqual(answers([0, 1, 6, 3, 7, 7, 7, 7]), [1, 0, 1, -7, 2, 0, 0])
        self.assertEqual(answers([0, 3, 4, 2, 5, 3, 1, 1, 1, 4, 3, -1]), [1, 0, 1, 0, 1, -5, 1, -1])

    def test_how_the_answers_to_questions_lie(self):
        # Open, and a load that needs 3 with 2 rooms of 2; the plan's totals are 1 and 2.
        before = [0, 2, 1, 3, 2, 2, 2]
        for call, answer in (
                ([11, 1], [2, 0, 2]), ([11, 9], [1, -1]), ([12], [2, 0, 5]), ([13, 2, 1, 2], [3, 0, 3, 2]),
                ([13, 1, 2], [3, 0, 1, 1]), ([13, 0], [1, -7]), ([14], [3, 0, 1, 2]), ([15, 2, 1, 2], [4, 0, 1, 2, 5]),
                ([15, 2, 2, 1], [4, 0, 1, 2, 5]), ([15, 2, 3, 0], [2, 0, 0]), ([15, 0], [2, 0, 0]),
                ([15, 1, -1], [1, -1]), ([16, 2, 1], [2, 0, 1]), ([16, 1, 2], [2, 0, 0]), ([16, 3, 3], [1, -8]),
                ([17, 1], [2, 0, 0]), ([17, 2], [2, 0, 1]), ([18, 1], [2, 0, 4]), ([18, 2], [1, -5]),
                ([19, 1], [4, 0, 3, 2, 2]), ([19, 2], [1, -5]), ([20], [6, 0, 2, 1, 0, 0, 0])):
            self.assertEqual(answers(before + call + [10]), [1, 0, 2, 0, 1] + answer + [2, 0, 2], call)
        self.assertEqual(answers([0, 1, 6, 0, 14, 12, 15, 0, 20]),
                         [1, 0, 2, 0, 0, 1, 0, 2, 0, 0, 4, 0, 1, 0, 0, 4, 0, 0, 0, 1])

    def test_the_forms_of_all_calls_are_read(self):
        between = (("top", 3), ("squares",), ("forced", [1, 2]), ("forced", []), ("because",), ("check", [7] * 3),
                   ("check", []), ("slack", 1, 2), ("fits", 10), ("could", 1), ("info", 1), ("state",))
        for call in between:
            given = ask(("open", 2), ("load", 3, [2, 2]), call, ("totals",), call, ("peak",))
            self.assertEqual(given[3], [0, 1, 2], call)
            self.assertEqual(given[5], [0, 2], call)

    def test_the_names_are_in_the_order_of_their_numbers(self):
        self.assertEqual(len(NAMES), 21)
        self.assertEqual(flat([("room", 1, 2, 3), ("pass", [4, 5])]), [3, 1, 2, 3, 6, 2, 4, 5])

    def test_what_is_handed_in_is_the_same_afterwards(self):
        handed = flat(self.long_list())
        before = list(handed)
        answers(handed)
        self.assertEqual(handed, before)

    def test_what_is_handed_in_is_not_changed_for_a_while_either(self):
        class Fixed(list):
            def changed(self, *arguments):
                raise AssertionError("the list is changed")
            __setitem__ = __delitem__ = __iadd__ = __imul__ = changed
            append = extend = insert = pop = remove = clear = reverse = sort = changed
        handed = flat(self.long_list())
        self.assertEqual(answers(Fixed(handed)), answers(handed))

    def test_a_second_time_gives_the_same(self):
        handed = flat(self.long_list())
        first = answers(handed)
        answers(flat([("open", 3), ("base", 1, 5)]))
        self.assertEqual(answers(handed), first)
        self.assertEqual(answers([5]), [1, -2])

    def test_whole_numbers_are_given_back(self):
        given = answers(flat(self.long_list()))
        self.assertIs(type(given), list)
        self.assertEqual({type(number) for number in given}, {int})

    def test_200_calls(self):
        calls = self.long_list()
        self.assertEqual(len(parted(answers(flat(calls)), 200)), 200)
        self.assertEqual(ask(*[("peak",)] * 200), [[-2]] * 200)

    def test_the_longest_list(self):
        calls = [("open", 8)] + [("check", [MOST] * 64)] * 100 + [("forced", [1] * 200)] * 45 + [("state",)] * 54
        self.assertLessEqual(len(flat(calls)), 16000)
        expected = [[0]] + [[0, 0]] * 100 + [[-1]] * 45 + [[0, 8, 0, 0] + [0] * 8] * 54
        self.assertEqual(ask(*calls), expected)

    def test_nothing_is_printed(self):
        out = io.StringIO()
        with contextlib.redirect_stdout(out), contextlib.redirect_stderr(out):
            answers(flat(self.long_list()))
        self.assertEqual(out.getvalue(), "")


if __name__ == "__main__":
    unittest.main()
