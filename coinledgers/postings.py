"""The calls that put an entry into the ledger."""

from coinledgers.books import CLOSED, CORRECTION, HOME_UNIT, MOVE, TOLD, VALUED_ANEW, Line
from coinledgers.books import account_of, entries_are_full, entry_of, has_account, has_entry, is_thing, put_entry
from coinledgers.deals import deal, gain_less, gain_sum
from coinledgers.lots import sum_of, use
from coinledgers.parts import are_against
from coinledgers.refusals import MISFIT, NO_ACCOUNT, NO_ENTRY, NO_RATE, NOT_CORRECTABLE, NOT_MOVABLE, TOO_MANY, UNEVEN
from coinledgers.worths import worth_on


def settle(house, line):
    account = account_of(house, line.account)
    if account.unit == HOME_UNIT:
        account.held += line.many
        return
    dealt = deal(account.lots, account.rule, line.many, line.there, line.home)
    account.lots = dealt.lots
    line.gain = dealt.gain


def post(house, kind, reference, lines):
    for line in lines:
        settle(house, line)
    gain = gain_sum([line.gain for line in lines])
    house.done = gain_sum([house.done, gain])
    number = put_entry(house, kind, reference, lines)
    return [0, number, gain.price, gain.rate]


def line_fits(house, line):
    unit = account_of(house, line.account).unit
    if line.many == 0:
        return False
    if unit == HOME_UNIT:
        return line.there == line.many and line.home == line.many
    if are_against(line.there, line.many) or are_against(line.home, line.many):
        return False
    return is_thing(house, unit) or line.there == line.many


def lines_of(numbers):
    return [Line(numbers[k], numbers[k + 1], numbers[k + 2], numbers[k + 3]) for k in range(0, len(numbers), 4)]


def tell_entry(house, numbers):
    lines = lines_of(numbers)
    if not all([has_account(house, line.account) for line in lines]):
        return [NO_ACCOUNT]
    if not all([line_fits(house, line) for line in lines]):
        return [MISFIT]
    if sum([line.home for line in lines]) != 0:
        return [UNEVEN]
    if entries_are_full(house):
        return [TOO_MANY]
    return post(house, TOLD, 0, lines)


def correct(house, number):
    if not has_entry(house, number):
        return [NO_ENTRY]
    wrong = entry_of(house, number)
    if wrong.kind != TOLD or any([entry.reference == number for entry in house.entries]):
        return [NOT_CORRECTABLE]
    if entries_are_full(house):
        return [TOO_MANY]
    lines = [Line(line.account, -line.many, -line.there, -line.home) for line in wrong.lines]
    return post(house, CORRECTION, number, lines)


def can_be_moved(giver, taker, many):
    held = sum_of(giver.lots).many
    if many == 0 or are_against(many, held) or abs(many) > abs(held):
        return False
    return not are_against(many, sum_of(taker.lots).many)


def move(house, first, second, many):
    if not has_account(house, first) or not has_account(house, second):
        return [NO_ACCOUNT]
    giver = account_of(house, first)
    taker = account_of(house, second)
    if first == second or giver.unit != taker.unit or giver.unit == HOME_UNIT:
        return [MISFIT]
    if not can_be_moved(giver, taker, many):
        return [NOT_MOVABLE]
    if entries_are_full(house):
        return [TOO_MANY]
    moved = use(giver.lots, giver.rule, many)
    giver.lots = moved.left
    taker.lots = taker.lots + moved.used
    cost = sum_of(moved.used)
    lines = [Line(first, -many, -cost.there, -cost.home), Line(second, many, cost.there, cost.home)]
    number = put_entry(house, MOVE, 0, lines)
    return [0, number, cost.there, cost.home]


def revalue(house):
    worths = [worth_on(house, account, house.day) for account in house.accounts]
    if any([worth is None for worth in worths]):
        return [NO_RATE]
    if entries_are_full(house):
        return [TOO_MANY]
    before = gain_sum([account.not_done for account in house.accounts])
    for account, worth in zip(house.accounts, worths):
        account.not_done = worth.not_done
    change = gain_less(gain_sum([worth.not_done for worth in worths]), before)
    return [0, put_entry(house, VALUED_ANEW, 0, []), change.price, change.rate]


def close(house):
    if entries_are_full(house):
        return [TOO_MANY]
    since = gain_less(house.done, house.closed)
    house.closed = house.done
    return [0, put_entry(house, CLOSED, 0, []), since.price, since.rate]
