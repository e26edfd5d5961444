"""The calls 11 to 20: what the house can be asked about its plan; none of them changes anything.

Each answers a list: 0 and what else is told, or the refusal's number alone: -5 no such
load, -7 the periods don't fit together, -8 no such period. All arguments are within their
ranges here.
"""

from levelloads.plan import forced_by, forced_sums, free_sums, holds, least_sums, plan_peak, plan_totals
from levelloads.plan import rounded_up, set_sums

GREATEST_AMOUNT = 1000000000


def top_sum(house, many):
    """The sum of so many of the plan's totals, the greatest ones."""
    falling = sorted(plan_totals(house), reverse=True)
    return [0, sum(falling[:many])]


def squares_of(totals):
    """The sum of the totals' squares."""
    return sum([total * total for total in totals])


def square_sum(house):
    """The sum of the squares of the plan's totals."""
    return [0, squares_of(plan_totals(house))]


def are_growing(periods, last):
    """Whether there are periods, each greater than the one before it and none beyond the last."""
    before = 0
    for period in periods:
        if period <= before or period > last:
            return False
        before = period
    return len(periods) > 0


def forced_and_mean(house, periods):
    """What's forced into the set of these periods, and its mean."""
    if not are_growing(periods, len(house.bases)):
        return [-7]
    part = sum([1 << (period - 1) for period in periods])
    return [0, forced_sums(house)[part], rounded_up(least_sums(house)[part], len(periods))]


def peak_periods(house):
    """The periods of the first set, as sets are numbered, whose mean is the peak."""
    peak = plan_peak(house)
    least = least_sums(house)
    sizes = set_sums([1] * len(house.bases))
    for part in range(1, len(least)):
        if rounded_up(least[part], sizes[part]) == peak:
            return [0] + [period + 1 for period in range(len(house.bases)) if holds(part, period) == 1]
    return [0]


def is_schedule(house, ways):
    """Whether each load's way keeps to its rooms and adds up to its need."""
    for way, need, rooms in zip(ways, house.needs, house.rooms):
        if sum(way) != need:
            return False
        for amount, room in zip(way, rooms):
            if amount > room:
                return False
    return True


def schedule_check(house, amounts):
    """0 if the amounts are no schedule, else 1, its greatest total and the sum of its totals' squares."""
    count = len(house.bases)
    if len(amounts) != len(house.needs) * count:
        return [0, 0]
    ways = [amounts[load * count:load * count + count] for load in range(len(house.needs))]
    if not is_schedule(house, ways):
        return [0, 0]
    totals = list(house.bases)
    for way in ways:
        totals = [total + amount for total, amount in zip(totals, way)]
    return [0, 1, max(totals, default=0), squares_of(totals)]


def slack_between(house, source, to):
    """The most that can go from the one period's amount to the other's.

    Only the sets that hold the one and not the other lose by it.
    """
    if max(source, to) > len(house.bases):
        return [-8]
    if source == to:
        return [-7]
    losing = [free for part, free in enumerate(free_sums(house)) if holds(part, source - 1) > holds(part, to - 1)]
    return [0, min(losing)]


def fits_limit(house, limit):
    """1 if the peak isn't above the limit, else 0."""
    return [0, 1 if plan_peak(house) <= limit else 0]


def greatest_need(house, load):
    """The greatest need that the load could have with the peak as it is.

    The peak stays as long as no set's mean is above it: the load may force into a set what it
    forces now and what's left there below the peak, and may need as much as that and its rooms
    outside. The empty set's bound is the load's rooms together.
    """
    if load > len(house.needs):
        return [-5]
    rooms = house.rooms[load - 1]
    peaks = set_sums([plan_peak(house)] * len(house.bases))
    insides = set_sums(rooms)
    own = forced_by(house.needs[load - 1], rooms)
    greatest = GREATEST_AMOUNT
    for part, least in enumerate(least_sums(house)):
        outside = insides[-1] - insides[part]
        greatest = min(greatest, peaks[part] - least + own[part] + outside)
    return [0, greatest]


def load_info(house, load):
    """The load's need, then its rooms."""
    if load > len(house.needs):
        return [-5]
    return [0, house.needs[load - 1]] + house.rooms[load - 1]


def house_state(house):
    """How many periods and loads there are, how many periods have passed, then the base."""
    return [0, len(house.bases), len(house.needs), house.passed] + house.bases
