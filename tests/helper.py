"""What the tests have in common: calls written by name, a plain search, checks by exchanges and by a flow."""

import itertools
import unittest

from levelloads.house import answers

NAMES = (
    "open", "load", "need", "room", "base", "add", "pass", "totals", "amounts", "shares", "peak",
    "top", "squares", "forced", "because", "check", "slack", "fits", "could", "info", "state",
)
MOST = 10 ** 9
FAR = 10 ** 18


def flat(calls):
    """The one list for calls such as ("load", 3, [1, 2])."""
    numbers = []
    for call in calls:
        numbers.append(NAMES.index(call[0]))
        for argument in call[1:]:
            if isinstance(argument, list):
                numbers.append(len(argument))
                numbers.extend(argument)
            else:
                numbers.append(argument)
    return numbers


def parted(answered, how_many):
    """The answers' list, call by call."""
    parts = []
    at = 0
    while at < len(answered):
        end = at + 1 + answered[at]
        parts.append(answered[at + 1:end])
        at = end
    if at != len(answered) or len(parts) != how_many:
        raise AssertionError("the answers don't lie as told")
    return parts


def ask(*calls):
    """The answers to the calls, a list for each."""
    return parted(answers(flat(calls)), len(calls))


def last(*calls):
    """The last call's answer; every call before it has to be accepted."""
    given = ask(*calls)
    for call, answer in zip(calls[:-1], given[:-1]):
        if answer[0] != 0:
            raise AssertionError("not accepted: %r" % (call,))
    return given[-1]


def built(bases, needs, rooms):
    """The calls that make a house with these numbers."""
    calls = [("open", len(bases))]
    calls += [("base", period + 1, base) for period, base in enumerate(bases) if base]
    calls += [("load", need, list(row)) for need, row in zip(needs, rooms)]
    return calls


SHOWN = (("totals",), ("amounts",), ("shares",), ("peak",))
KEPT = (("state",), *[("info", load) for load in range(1, 9)])
PROBES = (
    *KEPT, *SHOWN, *[("need", load, amount) for load in range(1, 9) for amount in (8, 7, 6, 5)], *KEPT, *SHOWN,
    ("pass", []), ("pass", [0, 0]), ("pass", [2, 0]), ("pass", [1, 1]), ("add",), ("load", 0, []), *KEPT, *SHOWN,
    ("open", 2),
)
SOME = built([3, 0, 1], [4, 2], [[2, 2, 2], [0, 5, 1]])


class Calls(unittest.TestCase):

    def answers_to(self, calls, answer):
        self.assertEqual(last(*calls), answer)

    def changes_nothing(self, before, call, answer):
        """The call is answered so, and the house answers all that shows what it keeps as if it hadn't been called."""
        given = ask(*before, call, *PROBES)
        self.assertEqual(given[len(before)], answer, call)
        self.assertEqual(given[len(before) + 1:], ask(*before, *PROBES)[len(before):], call)

    def refused(self, before, call, number):
        self.changes_nothing(before, call, [number])


def plan_of(bases, needs, rooms):
    """What the program answers to totals, amounts, shares and peak, without the 0."""
    given = ask(*built(bases, needs, rooms), ("totals",), ("amounts",), ("shares",), ("peak",))
    if any(answer[0] != 0 for answer in given):
        raise AssertionError("a call was refused")
    return [answer[1:] for answer in given[-4:]]


def ways_of(need, row):
    """All ways in which one load can be put."""
    return [way for way in itertools.product(*[range(room + 1) for room in row]) if sum(way) == need]


def totals_of(bases, schedule):
    return [base + sum(way[period] for way in schedule) for period, base in enumerate(bases)]


def searched(bases, needs, rooms):
    """The plan's totals and shares, by a search through all schedules in the document's own words."""
    best = None
    for schedule in itertools.product(*[ways_of(need, row) for need, row in zip(needs, rooms)]):
        totals = totals_of(bases, schedule)
        shares = [share for way in schedule for share in way]
        rank = (sorted(totals, reverse=True), totals, [-share for share in shares])
        if best is None or rank < best:
            best = rank
    return best[1], [-share for share in best[2]]


def reached(start, more, less):
    """All places that can be come to: more[load] and less[load] are the periods in which the load may get
    1 more and 1 less. From a period one comes to the loads that can give 1 up there, from a load to the
    periods in which it can take 1."""
    seen = {start}
    waiting = [start]
    while waiting:
        what, which = waiting.pop()
        if what == "period":
            following = [("load", load) for load, periods in enumerate(less) if which in periods]
        else:
            following = [("period", period) for period in more[which]]
        for place in following:
            if place not in seen:
                seen.add(place)
                waiting.append(place)
    return seen


def faults(bases, needs, rooms, totals, shares):
    """What keeps these totals and shares from being the plan, found by exchanges of 1; [] if nothing does.

    No two totals 2 or more apart can come nearer by 1, no two that are 1 apart can change places so that
    the earlier becomes the less, and no share can grow by 1 if those ahead of it stay.
    """
    count = len(bases)
    schedule = [shares[load * count:load * count + count] for load in range(len(needs))]
    cells = [(load, period) for load in range(len(needs)) for period in range(count)]
    found = []
    if len(shares) != len(cells) or totals_of(bases, schedule) != totals:
        return ["the shares don't make the totals"]
    if [sum(way) for way in schedule] != list(needs):
        found.append("a need isn't met")
    if any(not 0 <= schedule[load][period] <= rooms[load][period] for load, period in cells):
        found.append("a share isn't within its room")
    more = [[period for period in range(count) if way[period] < row[period]] for way, row in zip(schedule, rooms)]
    less = [[period for period in range(count) if way[period] > 0] for way in schedule]
    for source in range(count):
        places = reached(("period", source), more, less)
        for goal in range(count):
            if ("period", goal) in places:
                step = totals[source] - totals[goal]
                if step >= 2 or (step == 1 and source < goal):
                    found.append("1 can go from period %d to %d" % (source + 1, goal + 1))
    for load, period in cells:
        open_more = [[t for t in more[j] if (j, t) > (load, period)] for j in range(len(needs))]
        open_less = [[t for t in less[j] if (j, t) > (load, period)] for j in range(len(needs))]
        if period in more[load] and ("load", load) in reached(("period", period), open_more, open_less):
            found.append("load %d can get more in period %d" % (load + 1, period + 1))
    return found


def random_house(chance, most_loads, most_periods, most):
    periods = chance.randint(1, most_periods)
    bases = [chance.randint(0, most) for _ in range(periods)]
    rooms = [[chance.randint(0, most) for _ in range(periods)] for _ in range(chance.randint(0, most_loads))]
    needs = [chance.randint(0, min(most, sum(row))) for row in rooms]
    return bases, needs, rooms


def sets_of(periods):
    """All sets with at least one of so many periods (from 1), by the sum of 2^(t - 1) over their periods t."""
    found = []
    for code in range(1, 2 ** periods):
        found.append([period for period in range(1, periods + 1) if code // 2 ** (period - 1) % 2 == 1])
    return found


def forced_into(needs, rooms, chosen):
    """What's forced into the set of these periods, in the document's own words."""
    forced = 0
    for need, row in zip(needs, rooms):
        outside = sum(room for period, room in enumerate(row, 1) if period not in chosen)
        forced += max(0, need - outside)
    return forced


def mean_of(bases, needs, rooms, chosen):
    """The set's mean: the least whole number that, taken for each of its periods, isn't below the sum."""
    whole = forced_into(needs, rooms, chosen) + sum(bases[period - 1] for period in chosen)
    down = whole // len(chosen)
    return down if down * len(chosen) == whole else down + 1


def way_on(left, places):
    """Some way from "from" to "to" over the pairs with something left, or None."""
    came = {"from": None}
    waiting = ["from"]
    while waiting:
        place = waiting.pop(0)
        for following in places:
            if following not in came and left.get((place, following), 0) > 0:
                came[following] = place
                waiting.append(following)
    if "to" not in came:
        return None
    way = ["to"]
    while came[way[-1]] is not None:
        way.append(came[way[-1]])
    return list(zip(way[:0:-1], way[-2::-1]))


def can_be_amounts(amounts, needs, rooms):
    """Whether some schedule has these amounts: by the greatest flow from the loads to the periods."""
    if min(amounts) < 0 or sum(amounts) != sum(needs):
        return False
    left = {("from", ("load", load)): need for load, need in enumerate(needs)}
    left.update({(("period", period), "to"): amount for period, amount in enumerate(amounts)})
    for load, row in enumerate(rooms):
        for period, room in enumerate(row):
            left[("load", load), ("period", period)] = room
    places = [("load", load) for load in range(len(needs))]
    places += [("period", period) for period in range(len(amounts))] + ["to"]
    flow = 0
    way = way_on(left, places)
    while way is not None:
        most = min(left[pair] for pair in way)
        for here, there in way:
            left[here, there] -= most
            left[there, here] = left.get((there, here), 0) + most
        flow += most
        way = way_on(left, places)
    return flow == sum(needs)
