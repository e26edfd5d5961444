"""The calls on one house, answered one after the other."""

from levelloads.forms import call_within, read_call
from levelloads.kept import House
from levelloads.plan import plan_amounts, plan_peak, plan_shares, plan_totals
from levelloads.questions import fits_limit, forced_and_mean, greatest_need, house_state, load_info
from levelloads.questions import peak_periods, schedule_check, slack_between, square_sum, top_sum


def change(house, number, numbers, row):
    """The answer to one of the calls 0 to 6."""
    if number == 0:
        return house.begin(numbers[0])
    if number == 1:
        return house.add_load(numbers[0], row)
    if number == 2:
        return house.change_need(numbers[0], numbers[1])
    if number == 3:
        return house.change_room(numbers[0], numbers[1], numbers[2])
    if number == 4:
        return house.change_base(numbers[0], numbers[1])
    if number == 5:
        return house.add_period()
    return house.pass_on(row)


def show(house, number):
    """The answer to one of the calls 7 to 10."""
    if number == 7:
        return [0] + plan_totals(house)
    if number == 8:
        return [0] + plan_amounts(house)
    if number == 9:
        return [0] + plan_shares(house)
    return [0, plan_peak(house)]


def ask(house, number, numbers, row):
    """The answer to one of the calls 11 to 20."""
    if number == 11:
        return top_sum(house, numbers[0])
    if number == 12:
        return square_sum(house)
    if number == 13:
        return forced_and_mean(house, row)
    if number == 14:
        return peak_periods(house)
    if number == 15:
        return schedule_check(house, row)
    if number == 16:
        return slack_between(house, numbers[0], numbers[1])
    if number == 17:
        return fits_limit(house, numbers[0])
    if number == 18:
        return greatest_need(house, numbers[0])
    if number == 19:
        return load_info(house, numbers[0])
    return house_state(house)


def answer(house, call):
    """The refusal that every call may meet, or else the call's own answer."""
    if not call_within(call):
        return [-1]
    if call.number != 0 and not house.begun:
        return [-2]
    if call.number <= 6:
        return change(house, call.number, call.numbers, call.row)
    if call.number <= 10:
        return show(house, call.number)
    return ask(house, call.number, call.numbers, call.row)


def answers(calls):
    """For each call of the list, in order, how many numbers are answered, and these."""
    house = House()
    answered = []
    start = 0
    while start < len(calls):
        call = read_call(calls, start)
        numbers = answer(house, call)
        answered.append(len(numbers))
        answered.extend(numbers)
        start = call.end
    return answered
