"""A house, asked by a list of calls."""

from coinledgers.books import House, account_of, has_account
from coinledgers.makings import make_account, make_coin, make_house, make_thing, pass_days, tell_rate
from coinledgers.overviews import tell_entry_info, tell_gains, tell_rate_on, tell_state, tell_trial, tell_unit
from coinledgers.postings import close, correct, move, revalue, tell_entry
from coinledgers.ranges import OPEN, COIN, THING, ACCOUNT, RATE, ENTRY, CORRECT, MOVE, REVALUE, CLOSE, PASS
from coinledgers.ranges import BALANCE, LOTS, WORTH, TREE, TRIAL, ENTRY_INFO, KNOWN, KNOWN_ON, GAINS, WOULD, RATE_ON
from coinledgers.ranges import UNIT, ACCOUNT_TOLD, length_of, numbers_fit
from coinledgers.refusals import NO_ACCOUNT, NO_HOUSE, OUT_OF_RANGE
from coinledgers.tellings import tell_account, tell_balance, tell_known, tell_known_on, tell_lots, tell_tree
from coinledgers.tellings import tell_worth, tell_would


def answer_of_making(house, call, numbers):
    if call == OPEN:
        return make_house(house)
    if call == COIN:
        return make_coin(house)
    if call == THING:
        return make_thing(house, numbers[0])
    if call == ACCOUNT:
        return make_account(house, numbers[0], numbers[1], numbers[2])
    return tell_rate(house, numbers[0], numbers[1], numbers[2])


def answer_of_posting(house, call, numbers):
    if call == ENTRY:
        return tell_entry(house, numbers)
    if call == CORRECT:
        return correct(house, numbers[0])
    if call == MOVE:
        return move(house, numbers[0], numbers[1], numbers[2])
    if call == REVALUE:
        return revalue(house)
    return close(house)


def answer_of_account(house, call, numbers):
    number = numbers[0]
    if not has_account(house, number):
        return [NO_ACCOUNT]
    account = account_of(house, number)
    if call == BALANCE:
        return tell_balance(account)
    if call == LOTS:
        return tell_lots(account)
    if call == WORTH:
        return tell_worth(house, account, numbers[1])
    if call == TREE:
        return tell_tree(house, number)
    if call == KNOWN:
        return tell_known(house, number, numbers[1])
    if call == KNOWN_ON:
        return tell_known_on(house, number, numbers[1])
    if call == WOULD:
        return tell_would(house, number, numbers[1], numbers[2], numbers[3])
    return tell_account(account)


def answer_of_overview(house, call, numbers):
    if call == TRIAL:
        return tell_trial(house)
    if call == ENTRY_INFO:
        return tell_entry_info(house, numbers[0])
    if call == GAINS:
        return tell_gains(house)
    if call == RATE_ON:
        return tell_rate_on(house, numbers[0], numbers[1])
    if call == UNIT:
        return tell_unit(house, numbers[0])
    return tell_state(house)


def is_of_one_account(call):
    return call in (BALANCE, LOTS, WORTH, TREE, KNOWN, KNOWN_ON, WOULD, ACCOUNT_TOLD)


def answer_of(house, call, numbers):
    if not numbers_fit(call, numbers):
        return [OUT_OF_RANGE]
    if call != OPEN and not house.is_there:
        return [NO_HOUSE]
    if call <= RATE:
        return answer_of_making(house, call, numbers)
    if call <= CLOSE:
        return answer_of_posting(house, call, numbers)
    if call == PASS:
        return pass_days(house, numbers[0])
    if is_of_one_account(call):
        return answer_of_account(house, call, numbers)
    return answer_of_overview(house, call, numbers)


def answers(calls):
    house = House()
    told = []
    place = 0
    while place < len(calls):
        call = calls[place]
        start = place + 1
        many = length_of(call)
        if call == ENTRY:
            many = calls[start]
            start += 1
        place = start + many
        answer = answer_of(house, call, calls[start:place])
        told.append(len(answer))
        told.extend(answer)
    return told
