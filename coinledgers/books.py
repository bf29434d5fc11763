"""What a house keeps: units, rates, accounts, entries and gains."""

from coinledgers.deals import Gain

HOME_UNIT = 1
MOST_UNITS = 10
MOST_ACCOUNTS = 24
MOST_ENTRIES = 150

TOLD = 0
CORRECTION = 1
MOVE = 2
VALUED_ANEW = 3
CLOSED = 4


class Rate:
    def __init__(self, unit, day, over, under):
        self.unit = unit
        self.day = day
        self.over = over
        self.under = under


# Held is for an account in the house's own coin, lots are for all others.
class Account:
    def __init__(self, unit, parent, rule):
        self.unit = unit
        self.parent = parent
        self.rule = rule
        self.held = 0
        self.lots = []
        self.not_done = Gain(0, 0)


class Line:
    def __init__(self, account, many, there, home):
        self.account = account
        self.many = many
        self.there = there
        self.home = home
        self.gain = Gain(0, 0)


class Entry:
    def __init__(self, day, kind, reference, lines):
        self.day = day
        self.kind = kind
        self.reference = reference
        self.lines = lines


# The place of a unit in coins tells its number, the number there the coin it is priced in.
class House:
    def __init__(self):
        self.is_there = False
        self.day = 0
        self.coins = []
        self.rates = []
        self.accounts = []
        self.entries = []
        self.done = Gain(0, 0)
        self.closed = Gain(0, 0)


def has_unit(house, unit):
    return unit <= len(house.coins)


def coin_of(house, unit):
    return house.coins[unit - 1]


def is_thing(house, unit):
    return coin_of(house, unit) != unit


def has_account(house, number):
    return number <= len(house.accounts)


def account_of(house, number):
    return house.accounts[number - 1]


def has_entry(house, number):
    return number <= len(house.entries)


def entry_of(house, number):
    return house.entries[number - 1]


# Rates are told on days that never fall back, so the last one that is early enough holds.
def rate_on(house, unit, day):
    if unit == HOME_UNIT:
        return Rate(HOME_UNIT, 0, 1, 1)
    for rate in reversed(house.rates):
        if rate.unit == unit and rate.day <= day:
            return rate
    return None


def entries_are_full(house):
    return len(house.entries) == MOST_ENTRIES


def put_entry(house, kind, reference, lines):
    house.entries.append(Entry(house.day, kind, reference, lines))
    return len(house.entries)
