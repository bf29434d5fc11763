"""A house, asked by a list of calls."""

from coinledgers.books import House
from coinledgers.makings import make_account, make_coin, make_house, make_thing, pass_days, tell_rate
from coinledgers.postings import close, correct, move, revalue, tell_entry
from coinledgers.refusals import NO_HOUSE, OUT_OF_RANGE
from coinledgers.tellings import tell_balance, tell_lots

OPEN = 0
COIN = 1
THING = 2
ACCOUNT = 3
RATE = 4
ENTRY = 5
CORRECT = 6
MOVE = 7
REVALUE = 8
CLOSE = 9
PASS = 10
BALANCE = 11

# By the call's number: the kinds of its numbers, and for an entry those of one line.
KINDS = {
    0: (),
    1: (),
    2: ("unit",),
    3: ("unit", "parent", "rule"),
    4: ("unit", "share", "share"),
    5: ("account", "amount", "amount", "amount"),
    6: ("entry",),
    7: ("account", "account", "amount"),
    8: (),
    9: (),
    10: ("days",),
    11: ("account",),
    12: ("account",),
}

LOWEST = {
    "unit": 1,
    "parent": 0,
    "rule": 0,
    "share": 1,
    "account": 1,
    "amount": -1000000000,
    "entry": 1,
    "days": 1,
}

HIGHEST = {
    "unit": 10,
    "parent": 24,
    "rule": 4,
    "share": 1000000,
    "account": 24,
    "amount": 1000000000,
    "entry": 150,
    "days": 1000,
}

MOST_LINES = 6


def length_fits(call, numbers):
    many = len(KINDS[call])
    if call != ENTRY:
        return len(numbers) == many
    return len(numbers) % many == 0 and many <= len(numbers) <= many * MOST_LINES


def numbers_fit(call, numbers):
    if not length_fits(call, numbers):
        return False
    for place, number in enumerate(numbers):
        kind = KINDS[call][place % len(KINDS[call])]
        if number < LOWEST[kind] or number > HIGHEST[kind]:
            return False
    return True


def answer_of_making(house, call, numbers):
    if call == OPEN:
        return make_house(house)
    if call == COIN:
        return make_coin(house)
    if call == THING:
        return make_thing(house, numbers[0])
    if call == ACCOUNT:
        return make_account(house, numbers[0], numbers[1], numbers[2])
    return tell_rate(house, numbers[0], numbers[1], numbers[2])


def answer_of_posting(house, call, numbers):
    if call == ENTRY:
        return tell_entry(house, numbers)
    if call == CORRECT:
        return correct(house, numbers[0])
    if call == MOVE:
        return move(house, numbers[0], numbers[1], numbers[2])
    if call == REVALUE:
        return revalue(house)
    return close(house)


def answer_of(house, call, numbers):
    if not numbers_fit(call, numbers):
        return [OUT_OF_RANGE]
    if call != OPEN and not house.is_there:
        return [NO_HOUSE]
    if call <= RATE:
        return answer_of_making(house, call, numbers)
    if call <= CLOSE:
        return answer_of_posting(house, call, numbers)
    if call == PASS:
        return pass_days(house, numbers[0])
    if call == BALANCE:
        return tell_balance(house, numbers[0])
    return tell_lots(house, numbers[0])


def answers(calls):
    house = House()
    told = []
    place = 0
    while place < len(calls):
        call = calls[place]
        start = place + 1
        many = len(KINDS[call])
        if call == ENTRY:
            many = calls[start]
            start += 1
        place = start + many
        answer = answer_of(house, call, calls[start:place])
        told.append(len(answer))
        told.extend(answer)
    return told
