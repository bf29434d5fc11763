"""Draws long mixed lists of calls."""

import random

from tests.ledger import CLOSE, COIN, FAR, GAINS, LAST_DAY, OPEN, REVALUE, STATE, TRIAL, account, account_told, balance
from tests.ledger import correct, entry, entry_info, known, known_on, lots, move, pass_days, rate, rate_on, thing, tree
from tests.ledger import unit_told, worth
from tests.model import RANGES

# How often each call is drawn.
SHARES = {"open": 1, "coin": 2, "thing": 2, "account": 4, "rate": 5, "entry": 40, "correct": 10, "move": 18,
          "revalue": 6, "close": 3, "pass": 6, "wild": 4, "balance": 3, "lots": 5, "worth": 5, "tree": 4, "trial": 4,
          "info": 5, "known": 4, "known_on": 4, "gains": 4, "would": 8, "rate_on": 3, "unit": 2, "account_told": 2,
          "state": 3}
SIZES = [3, 20, 1000, 10 ** 9]


# Most calls are such as are accepted, some are not.
class Writer:
    def __init__(self, seed):
        self.chance = random.Random(seed)
        self.size = self.chance.choice(SIZES)
        # By number, the unit of an account and the coin of a unit, as they come to be if nothing is refused.
        self.coins = [0, 1]
        self.units = [0]

    def many(self):
        found = 0
        while found == 0 and self.chance.random() < 0.98:
            found = self.chance.randint(-self.size, self.size)
        return found

    def line(self):
        number = self.chance.randint(1, max(1, len(self.units) - 1))
        many = self.many()
        side = 1 if many > 0 else -1
        there, home = [side * self.chance.randint(0, self.size) for turn in range(2)]
        unit = self.units[number] if number < len(self.units) else 1
        if unit == 1:
            return [number, many, many, many]
        if self.coins[unit] == unit:
            there = many
        return [number, many, there, home]

    def entry(self):
        numbers = []
        for turn in range(self.chance.randint(1, 5)):
            numbers.extend(self.line())
        home = sum(numbers[3::4])
        if home and abs(home) <= 10 ** 9 and self.chance.random() < 0.97:
            numbers.extend([1, -home, -home, -home])
        return entry(*numbers)

    def account(self):
        unit = self.chance.randint(1, len(self.coins) - 1)
        self.units.append(unit)
        parent = self.chance.randint(0, len(self.units) - 2) if self.chance.random() < 0.6 else 0
        return account(unit, parent + (self.chance.random() < 0.03), self.chance.randint(0, 4))

    def thing(self):
        coin = self.chance.randint(1, len(self.coins) - 1)
        if self.coins[coin] == coin and len(self.coins) < 11:
            self.coins.append(coin)
        return thing(coin)

    def coin(self):
        if len(self.coins) < 11:
            self.coins.append(len(self.coins))
        return COIN

    def wild(self):
        call = self.chance.randint(0, 24)
        odd = [-FAR, -10 ** 9 - 1, -1, 0, 1, 2, 4, 5, 10, 11, 24, 25, 150, 151, 1000, 1001, 3999, 4000, 10 ** 6 + 1,
               FAR]
        if call == 5:
            return entry(*[self.chance.choice(odd) for turn in range(self.chance.choice([0, 3, 4, 8, 24, 28, 100]))])
        return [call] + [self.chance.choice(odd) for place in RANGES[call]]

    def move(self, number):
        unit = self.units[min(number, len(self.units) - 1)]
        alike = [other for other, kept in enumerate(self.units) if kept == unit and other != number]
        if not alike or self.chance.random() < 0.1:
            alike = range(1, len(self.units) + 1)
        return move(number, self.chance.choice(alike), self.many() // self.chance.choice([1, 2, 8]))

    def telling(self, kind, number):
        day = self.chance.choice([0, LAST_DAY, self.chance.randint(0, 2000)])
        unit = self.chance.randint(1, len(self.coins))
        entries = self.chance.randint(1, 60)
        made = {"balance": balance(number), "lots": lots(number), "worth": worth(number, day), "tree": tree(number),
                "trial": TRIAL, "info": entry_info(entries), "known": known(number, entries - 1),
                "known_on": known_on(number, day), "gains": GAINS, "would": [20] + self.line(),
                "rate_on": rate_on(min(unit, 10), day), "unit": unit_told(min(unit, 10)),
                "account_told": account_told(number), "state": STATE}
        return made[kind]

    def call(self):
        kind = self.chance.choices(list(SHARES), list(SHARES.values()))[0]
        number = self.chance.randint(1, max(1, len(self.units)))
        if kind in ("coin", "thing", "account", "entry", "wild"):
            return getattr(self, kind)()
        if kind == "rate":
            return rate(self.chance.randint(1, len(self.coins)), self.chance.randint(1, 50), self.chance.randint(1, 50))
        if kind == "move":
            return self.move(number)
        made = {"open": OPEN, "revalue": REVALUE, "close": CLOSE, "correct": correct(self.chance.randint(1, 60)),
                "pass": pass_days(self.chance.randint(1, 300))}
        return made[kind] if kind in made else self.telling(kind, number)

    def start(self):
        calls = [self.wild() for turn in range(self.chance.choice([0, 0, 3]))] + [OPEN, account(1)]
        self.units.append(1)
        for turn in range(self.chance.randint(1, 3)):
            calls.append(self.coin())
            calls.append(self.thing())
        for unit in range(2, len(self.coins)):
            calls.append(rate(unit, self.chance.randint(1, 20), self.chance.randint(1, 20)))
        for turn in range(self.chance.randint(2, 8)):
            calls.append(self.account())
        return calls

    def calls(self, length):
        calls = self.start()
        return calls + [self.call() for turn in range(length - len(calls))]
