"""The calls that tell of the whole house, of its entries and its units, and change nothing."""

from coinledgers.books import CORRECTION, HOME_UNIT, TOLD, account_of, coin_of, has_entry, has_unit, is_thing, rate_on
from coinledgers.books import entry_of
from coinledgers.deals import gain_sum
from coinledgers.refusals import NO_ENTRY, NO_RATE, NO_UNIT
from coinledgers.worths import cost_at_home, cost_of


def total_of_unit(house, unit):
    return sum([cost_of(account).many for account in house.accounts if account.unit == unit])


def brought_of_unit(house, unit):
    brought = 0
    for entry in house.entries:
        if entry.kind in (TOLD, CORRECTION):
            brought += sum([line.many for line in entry.lines if account_of(house, line.account).unit == unit])
    return brought


def tell_trial(house):
    answer = [0]
    for unit in range(1, len(house.coins) + 1):
        answer.extend([total_of_unit(house, unit), -brought_of_unit(house, unit)])
    answer.extend([cost_at_home(house.accounts), house.done.price, house.done.rate])
    return answer


def tell_entry_info(house, number):
    if not has_entry(house, number):
        return [NO_ENTRY]
    entry = entry_of(house, number)
    answer = [0, entry.day, entry.kind, entry.reference, len(entry.lines)]
    for line in entry.lines:
        answer.extend([line.account, line.many, line.there, line.home, line.gain.price, line.gain.rate])
    return answer


def tell_gains(house):
    answer = [0]
    for gain in (house.done, house.closed, gain_sum([account.not_done for account in house.accounts])):
        answer.extend([gain.price, gain.rate])
    return answer


def tell_rate_on(house, unit, day):
    if unit == HOME_UNIT or not has_unit(house, unit):
        return [NO_UNIT]
    rate = rate_on(house, unit, day)
    if rate is None:
        return [NO_RATE]
    return [0, rate.over, rate.under, rate.day]


def tell_unit(house, unit):
    if not has_unit(house, unit):
        return [NO_UNIT]
    return [0, 1 if is_thing(house, unit) else 0, coin_of(house, unit)]


def tell_state(house):
    return [0, house.day, len(house.coins), len(house.rates), len(house.accounts), len(house.entries)]
