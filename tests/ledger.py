"""How the tests ask the program: calls are lists, an answer is a list for each call."""

import unittest

from coinledgers.houses import answers

OPEN = [0]
COIN = [1]
REVALUE = [8]
CLOSE = [9]
TRIAL = [15]
GAINS = [19]
STATE = [24]

FAR = 10 ** 18
LAST_DAY = 3999


def thing(coin):
    return [2, coin]


def account(unit, parent=0, rule=0):
    return [3, unit, parent, rule]


def rate(unit, over, under):
    return [4, unit, over, under]


def entry(*numbers):
    return [5, len(numbers), *numbers]


def correct(number):
    return [6, number]


def move(first, second, many):
    return [7, first, second, many]


def pass_days(days):
    return [10, days]


def balance(number):
    return [11, number]


def lots(number):
    return [12, number]


def worth(number, day):
    return [13, number, day]


def tree(number):
    return [14, number]


def entry_info(number):
    return [16, number]


def known(number, entries):
    return [17, number, entries]


def known_on(number, day):
    return [18, number, day]


def would(number, many, there, home):
    return [20, number, many, there, home]


def rate_on(unit, day):
    return [21, unit, day]


def unit_told(unit):
    return [22, unit]


def account_told(number):
    return [23, number]


def split(flat):
    found = []
    place = 0
    while place < len(flat):
        many = flat[place]
        found.append(flat[place + 1:place + 1 + many])
        place += 1 + many
    return found


def flat(calls):
    return [number for call in calls for number in call]


def ask(calls):
    return split(answers(flat(calls)))


def last(calls):
    return ask(calls)[-1]


# Units: 1 home, 2 a coin, 3 a thing priced at home, 4 a thing priced in coin 2.
UNITS = [OPEN, COIN, thing(1), thing(2)]


# Accounts: 1 at home, 2 in the coin, 3 in the home thing, 4 in the coin's thing.
def house(rule=0):
    return UNITS + [account(1), account(2, 0, rule), account(3, 0, rule), account(4, 0, rule)]


# Lines against account 1, so that a single deal of another account is even at home.
def dealt(number, many, there, home):
    if home == 0:
        return entry(number, many, there, home)
    return entry(number, many, there, home, 1, -home, -home, -home)


# Tells all that can be shown of a house, and goes on to use its numbers and its rates.
def probe():
    calls = [STATE, TRIAL, GAINS]
    for number in range(1, 25):
        calls.extend([lots(number), account_told(number)])
    for number in range(1, 11):
        calls.extend([entry_info(number), unit_told(number), rate_on(number, LAST_DAY)])
    calls.extend([CLOSE, REVALUE])
    for number in range(1, 25):
        calls.append(balance(number))
    for number in range(1, 12):
        calls.append(correct(number))
    for number in range(1, 25):
        calls.extend([balance(number), lots(number)])
    calls.extend([COIN, thing(1), account(1), pass_days(1), OPEN, STATE])
    return calls


class LedgerCase(unittest.TestCase):
    def check_last(self, calls, answer):
        self.assertEqual(last(calls), answer)

    # What each of the calls that change nothing answers behind the same calls before.
    def check_each(self, before, answered):
        told = ask(before + [call for call, answer in answered])[len(before):]
        for (call, answer), found in zip(answered, told, strict=True):
            self.assertEqual(found, answer, call)

    def check_refused(self, before, call, number):
        told = ask(before + [call] + probe())
        self.assertEqual(told[len(before)], [number], call)
        self.assertEqual(told[len(before) + 1:], ask(before + probe())[len(before):], call)

    def check_changes_nothing(self, before, calls):
        told = ask(before + calls + probe())
        self.assertEqual(told[len(before) + len(calls):], ask(before + probe())[len(before):])
