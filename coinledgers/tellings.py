"""The calls that tell of one account and change nothing."""

from coinledgers.books import HOME_UNIT, Line, account_of
from coinledgers.deals import deal, gain_sum
from coinledgers.postings import line_fits
from coinledgers.refusals import MISFIT, NO_RATE
from coinledgers.worths import cost_at_home, cost_of, worth_on


def tell_balance(account):
    cost = cost_of(account)
    return [0, cost.many, cost.there, cost.home, account.not_done.price, account.not_done.rate]


def lots_of(account):
    if account.unit != HOME_UNIT:
        return account.lots
    return [cost_of(account)] if account.held != 0 else []


def tell_lots(account):
    lots = lots_of(account)
    answer = [0, len(lots)]
    for lot in lots:
        answer.extend([lot.many, lot.there, lot.home])
    return answer


def tell_worth(house, account, day):
    worth = worth_on(house, account, day)
    if worth is None:
        return [NO_RATE]
    return [0, worth.there, worth.home, worth.not_done.price, worth.not_done.rate]


# A parent is told before those below it, so one walk in order finds every step down.
def accounts_of_tree(house, number):
    inside = {number: True}
    for other, account in enumerate(house.accounts, start=1):
        if account.parent in inside:
            inside[other] = True
    return [account_of(house, other) for other in inside]


def tell_tree(house, number):
    accounts = accounts_of_tree(house, number)
    not_done = gain_sum([account.not_done for account in accounts])
    return [0, len(accounts), cost_at_home(accounts), not_done.price + not_done.rate]


def lines_on(entries, number):
    found = []
    for entry in entries:
        found.extend([line for line in entry.lines if line.account == number])
    return found


def tell_known(house, number, many):
    lines = lines_on(house.entries[:many], number)
    return [0, sum([line.many for line in lines]), sum([line.home for line in lines])]


def tell_known_on(house, number, day):
    lines = lines_on([entry for entry in house.entries if entry.day <= day], number)
    return [0, sum([line.many for line in lines])]


# An account in the house's own coin has no lots, so that a deal tells no gain of it.
def tell_would(house, number, many, there, home):
    if not line_fits(house, Line(number, many, there, home)):
        return [MISFIT]
    account = account_of(house, number)
    gain = deal(account.lots, account.rule, many, there, home).gain
    return [0, gain.price, gain.rate]


def tell_account(account):
    return [0, account.unit, account.parent, account.rule]
