"""What the tests have in common: calls written by name, a plain search, and a check by exchanges."""

import itertools

from levelloads.house import answers

NAMES = (
    "open", "load", "need", "room", "base", "add", "pass", "totals", "amounts", "shares", "peak",
    "top", "squares", "forced", "because", "check", "slack", "fits", "could", "info", "state",
)
MOST = 10 ** 9
FAR = 10 ** 18


def flat(calls):
    """The one list for calls such as ("load", 3, [1, 2])."""
    numbers = []
    for call in calls:
        numbers.append(NAMES.index(call[0]))
        for argument in call[1:]:
            if isinstance(argument, list):
                numbers.append(len(argument))
                numbers.extend(argument)
            else:
                numbers.append(argument)
    return numbers


def parted(answered, how_many):
    """The answers' list, call by call."""
    parts = []
    at = 0
    while at < len(answered):
        end = at + 1 + answered[at]
        parts.append(answered[at + 1:end])
        at = end
    if at != len(answered) or len(parts) != how_many:
        raise AssertionError("the answers don't lie as told")
    return parts


def ask(*calls):
    """The answers to the calls, a list for each."""
    return parted(answers(flat(calls)), len(calls))


def last(*calls):
    """The last call's answer; every call before it has to be accepted."""
    given = ask(*calls)
    for call, answer in zip(calls[:-1], given[:-1]):
        if answer[0] != 0:
            raise AssertionError("not accepted: %r" % (call,))
    return given[-1]


def built(bases, needs, rooms):
    """The calls that make a house with these numbers."""
    calls = [("open", len(bases))]
    calls += [("base", period + 1, base) for period, base in enumerate(bases) if base]
    calls += [("load", need, list(row)) for need, row in zip(needs, rooms)]
    return calls


def plan_of(bases, needs, rooms):
    """What the program answers to totals, amounts, shares and peak, without the 0."""
    given = ask(*built(bases, needs, rooms), ("totals",), ("amounts",), ("shares",), ("peak",))
    if any(answer[0] != 0 for answer in given):
        raise AssertionError("a call was refused")
    return [answer[1:] for answer in given[-4:]]


def ways_of(need, row):
    """All ways in which one load can be put."""
    return [way for way in itertools.product(*[range(room + 1) for room in row]) if sum(way) == need]


def totals_of(bases, schedule):
    return [base + sum(way[period] for way in schedule) for period, base in enumerate(bases)]


def searched(bases, needs, rooms):
    """The plan's totals and shares, by a search through all schedules in the document's own words."""
    best = None
    for schedule in itertools.product(*[ways_of(need, row) for need, row in zip(needs, rooms)]):
        totals = totals_of(bases, schedule)
        shares = [share for way in schedule for share in way]
        rank = (sorted(totals, reverse=True), totals, [-share for share in shares])
        if best is None or rank < best:
            best = rank
    return best[1], [-share for share in best[2]]


def reached(start, more, less):
    """All places that can be come to: more[load] and less[load] are the periods in which the load may get
    1 more and 1 less. From a period one comes to the loads that can give 1 up there, from a load to the
    periods in which it can take 1."""
    seen = {start}
    waiting = [start]
    while waiting:
        what, which = waiting.pop()
        if what == "period":
            following = [("load", load) for load, periods in enumerate(less) if which in periods]
        else:
            following = [("period", period) for period in more[which]]
        for place in following:
            if place not in seen:
                seen.add(place)
                waiting.append(place)
    return seen


def faults(bases, needs, rooms, totals, shares):
    """What keeps these totals and shares from being the plan, found by exchanges of 1; [] if nothing does.

    No two totals 2 or more apart can come nearer by 1, no two that are 1 apart can change places so that
    the earlier becomes the less, and no share can grow by 1 if those ahead of it stay.
    """
    count = len(bases)
    schedule = [shares[load * count:load * count + count] for load in range(len(needs))]
    cells = [(load, period) for load in range(len(needs)) for period in range(count)]
    found = []
    if len(shares) != len(cells) or totals_of(bases, schedule) != totals:
        return ["the shares don't make the totals"]
    if [sum(way) for way in schedule] != list(needs):
        found.append("a need isn't met")
    if any(not 0 <= schedule[load][period] <= rooms[load][period] for load, period in cells):
        found.append("a share isn't within its room")
    more = [[period for period in range(count) if way[period] < row[period]] for way, row in zip(schedule, rooms)]
    less = [[period for period in range(count) if way[period] > 0] for way in schedule]
    for source in range(count):
        places = reached(("period", source), more, less)
        for goal in range(count):
            if ("period", goal) in places:
                step = totals[source] - totals[goal]
                if step >= 2 or (step == 1 and source < goal):
                    found.append("1 can go from period %d to %d" % (source + 1, goal + 1))
    for load, period in cells:
        open_more = [[t for t in more[j] if (j, t) > (load, period)] for j in range(len(needs))]
        open_less = [[t for t in less[j] if (j, t) > (load, period)] for j in range(len(needs))]
        if period in more[load] and ("load", load) in reached(("period", period), open_more, open_less):
            found.append("load %d can get more in period %d" % (load + 1, period + 1))
    return found
