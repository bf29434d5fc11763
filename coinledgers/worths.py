"""What accounts are worth on a day, and their gains not done."""

from coinledgers.books import HOME_UNIT, coin_of, is_thing, rate_on
from coinledgers.deals import Gain
from coinledgers.lots import Lot, sum_of
from coinledgers.parts import part


class Worth:
    def __init__(self, there, home, not_done):
        self.there = there
        self.home = home
        self.not_done = not_done


def cost_of(account):
    if account.unit == HOME_UNIT:
        return Lot(account.held, account.held, account.held)
    return sum_of(account.lots)


def cost_at_home(accounts):
    return sum([cost_of(account).home for account in accounts])


# None if the thing's rate is needed and is not there.
def worth_there(house, account, total, day):
    if not is_thing(house, account.unit):
        return total
    rate = rate_on(house, account.unit, day)
    if rate is None:
        return None
    return part(total, rate.over, rate.under)


# None if a rate that is needed is not there.
def worth_on(house, account, day):
    cost = cost_of(account)
    if account.unit == HOME_UNIT or cost.many == 0:
        return Worth(cost.there, cost.home, Gain(0, 0))
    there = worth_there(house, account, cost.many, day)
    rate = rate_on(house, coin_of(house, account.unit), day)
    if there is None or rate is None:
        return None
    home = part(there, rate.over, rate.under)
    price = part(there - cost.there, rate.over, rate.under)
    return Worth(there, home, Gain(price, home - cost.home - price))
