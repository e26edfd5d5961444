"""The plan: the most level totals of all schedules, and the shares that make them.

A set of periods is a whole number, the sum of 2^(t - 1) over its periods t. A table is
a list that has a number for each set, at the set's place.

Amounts are those of some schedule just if they add up to the sum of the needs and each
set of periods gets at least what's forced into it. What's forced into two sets, added up,
is never more than what's forced into both as one set and into what they have in common,
added up. All below rests on these two.
"""


def set_sums(values):
    """The table of the sums of the periods' values."""
    sums = [0]
    for value in values:
        sums = sums + [before + value for before in sums]
    return sums


def forced_by(need, rooms):
    """The table of what one load forces into each set."""
    sums = set_sums(rooms)
    spare = sums[-1] - need
    return [max(0, inside - spare) for inside in sums]


def forced_sums(house):
    """The table of what all loads together force into each set."""
    forced = set_sums([0] * len(house.bases))
    for need, rooms in zip(house.needs, house.rooms):
        forced = [before + more for before, more in zip(forced, forced_by(need, rooms))]
    return forced


def least_sums(house):
    """The table of the least that each set's totals can be together."""
    return [forced + base for forced, base in zip(forced_sums(house), set_sums(house.bases))]


def rounded_up(amount, parts):
    """The amount divided by the parts, rounded up."""
    return (amount + parts - 1) // parts


def holds(part, period):
    """1 if the set holds the period (counted from 0 here), else 0."""
    return (part >> period) & 1


def next_level(least, sizes, done):
    """The greatest total that the periods outside the set `done` can't avoid."""
    level = 0
    for wider in range(len(least)):
        if wider != done and (wider & done) == done:
            mean = rounded_up(least[wider] - least[done], sizes[wider] - sizes[done])
            level = max(level, mean)
    return level


def next_done(least, sizes, done, level):
    """The set that holds `done` and goes furthest beyond the level less 1 in each further period.

    No schedule has fewer further periods at the level than it goes beyond, and some have no more.
    """
    found = done
    beyond = 0
    for wider in range(len(least)):
        if (wider & done) == done:
            more = least[wider] - least[done] - (level - 1) * (sizes[wider] - sizes[done])
            if more > beyond:
                found = wider
                beyond = more
    return found


def can_hold(totals, least, found):
    """Whether these totals are enough for every set within `found`."""
    for part, total in enumerate(set_sums(totals)):
        if (part & found) == part and total < least[part]:
            return False
    return True


def put_level(totals, least, done, found, level):
    """The totals with those of the periods of `found` outside `done`: the level or 1 less.

    The earliest periods that can have 1 less have it.
    """
    inside = [period for period in range(len(totals)) if holds(found - done, period) == 1]
    changed = list(totals)
    for period in inside:
        changed[period] = level
    for period in inside:
        changed[period] = level - 1
        if not can_hold(changed, least, found):
            changed[period] = level
    return changed


def plan_totals(house):
    """The plan's totals: level by level, from the greatest down.

    The periods of the levels that are done have together the least that they can have, so
    that the later levels can be found as if there were only the periods that are left.
    """
    totals = [0] * len(house.bases)
    sizes = set_sums([1] * len(house.bases))
    least = least_sums(house)
    done = 0
    while done < len(least) - 1:
        level = next_level(least, sizes, done)
        found = next_done(least, sizes, done, level)
        totals = put_level(totals, least, done, found, level)
        done = found
    return totals


def plan_amounts(house):
    """The plan's totals less the base."""
    return [total - base for total, base in zip(plan_totals(house), house.bases)]


def free_sums(house):
    """The table of what the plan's amounts give each set beyond what's forced into it."""
    return [amount - forced for amount, forced in zip(set_sums(plan_amounts(house)), forced_sums(house))]


def plan_shares(house):
    """The plan's shares, load by load, each as great as it can be behind those before it.

    `free` is the table of what's left in each set beyond what the later loads force into it.
    """
    free = free_sums(house)
    shares = []
    for need, rooms in zip(house.needs, house.rooms):
        free = [before + own for before, own in zip(free, forced_by(need, rooms))]
        for period, room in enumerate(rooms):
            share = min([room] + [left for part, left in enumerate(free) if holds(part, period) == 1])
            free = [left - share * holds(part, period) for part, left in enumerate(free)]
            shares.append(share)
    return shares


def plan_peak(house):
    """The greatest of the plan's totals, 0 if there are no periods."""
    return max(plan_totals(house), default=0)
