"""The calls that make a house and what stands in it, and the one that passes days."""

from coinledgers.books import HOME_UNIT, MOST_ACCOUNTS, MOST_UNITS, Account, Rate, has_account, has_unit, is_thing
from coinledgers.refusals import HOUSE_THERE, NO_ACCOUNT, NO_UNIT, TOO_LATE, TOO_MANY

LAST_DAY = 3999


def make_house(house):
    if house.is_there:
        return [HOUSE_THERE]
    house.is_there = True
    house.coins.append(HOME_UNIT)
    return [0]


def make_coin(house):
    if len(house.coins) == MOST_UNITS:
        return [TOO_MANY]
    number = len(house.coins) + 1
    house.coins.append(number)
    return [0, number]


def make_thing(house, coin):
    if not has_unit(house, coin) or is_thing(house, coin):
        return [NO_UNIT]
    if len(house.coins) == MOST_UNITS:
        return [TOO_MANY]
    house.coins.append(coin)
    return [0, len(house.coins)]


def make_account(house, unit, parent, rule):
    if not has_unit(house, unit):
        return [NO_UNIT]
    if parent != 0 and not has_account(house, parent):
        return [NO_ACCOUNT]
    if len(house.accounts) == MOST_ACCOUNTS:
        return [TOO_MANY]
    house.accounts.append(Account(unit, parent, rule))
    return [0, len(house.accounts)]


def tell_rate(house, unit, over, under):
    if unit == HOME_UNIT or not has_unit(house, unit):
        return [NO_UNIT]
    house.rates.append(Rate(unit, house.day, over, under))
    return [0]


def pass_days(house, days):
    if house.day + days > LAST_DAY:
        return [TOO_LATE]
    house.day += days
    return [0, house.day]
