"""The calls that tell what stands in the ledger and change nothing."""

from coinledgers.books import HOME_UNIT, account_of, has_account
from coinledgers.refusals import NO_ACCOUNT
from coinledgers.worths import cost_of


def tell_balance(house, number):
    if not has_account(house, number):
        return [NO_ACCOUNT]
    account = account_of(house, number)
    cost = cost_of(account)
    return [0, cost.many, cost.there, cost.home, account.not_done.price, account.not_done.rate]


def lots_of(account):
    if account.unit != HOME_UNIT:
        return account.lots
    return [cost_of(account)] if account.held != 0 else []


def tell_lots(house, number):
    if not has_account(house, number):
        return [NO_ACCOUNT]
    lots = lots_of(account_of(house, number))
    answer = [0, len(lots)]
    for lot in lots:
        answer.extend([lot.many, lot.there, lot.home])
    return answer
