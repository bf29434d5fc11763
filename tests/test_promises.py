import random
import unittest
from fractions import Fraction

from tests.ledger import CLOSE, COIN, OPEN, REVALUE, account, ask, balance, correct, dealt, entry, lots, move
from tests.ledger import pass_days, rate, thing
from tests.model import Model, nearest

KINDS = ["open", "coin", "thing", "account", "rate", "entry", "correct", "move", "revalue", "close", "pass",
         "balance", "lots", "wild"]
SHARES = [1, 2, 2, 4, 4, 40, 12, 20, 6, 3, 6, 6, 10, 3]
SIZES = [3, 20, 1000, 10 ** 9]


# Most calls are such as are accepted, some are not.
class Writer:
    def __init__(self, seed):
        self.chance = random.Random(seed)
        self.size = self.chance.choice(SIZES)
        # By number, the unit of an account and the coin of a unit, as they come to be if nothing is refused.
        self.coins = [0, 1]
        self.units = [0]

    def many(self):
        found = 0
        while found == 0 and self.chance.random() < 0.98:
            found = self.chance.randint(-self.size, self.size)
        return found

    def line(self):
        number = self.chance.randint(1, max(1, len(self.units) - 1))
        many = self.many()
        side = 1 if many > 0 else -1
        there, home = [side * self.chance.randint(0, self.size) for turn in range(2)]
        unit = self.units[number] if number < len(self.units) else 1
        if unit == 1:
            return [number, many, many, many]
        if self.coins[unit] == unit:
            there = many
        return [number, many, there, home]

    def entry(self):
        numbers = []
        for turn in range(self.chance.randint(1, 5)):
            numbers.extend(self.line())
        home = sum(numbers[3::4])
        if home and abs(home) <= 10 ** 9 and self.chance.random() < 0.97:
            numbers.extend([1, -home, -home, -home])
        return entry(*numbers)

    def account(self):
        unit = self.chance.randint(1, len(self.coins) - 1)
        self.units.append(unit)
        return account(unit, self.chance.randint(0, len(self.units) - 1) if self.chance.random() < 0.1 else 0,
                       self.chance.randint(0, 4))

    def thing(self):
        coin = self.chance.randint(1, len(self.coins) - 1)
        if self.coins[coin] == coin and len(self.coins) < 11:
            self.coins.append(coin)
        return thing(coin)

    def coin(self):
        if len(self.coins) < 11:
            self.coins.append(len(self.coins))
        return COIN

    def wild(self):
        lengths = [0, 0, 1, 3, 3, None, 1, 3, 0, 0, 1, 1, 1]
        call = self.chance.choice([2, 3, 4, 5, 6, 7, 10, 11, 12])
        odd = [-10 ** 18, -10 ** 9 - 1, -1, 0, 1, 2, 4, 5, 10, 11, 24, 25, 150, 151, 1000, 1001, 10 ** 6 + 1, 10 ** 18]
        if call == 5:
            return entry(*[self.chance.choice(odd) for turn in range(self.chance.choice([0, 3, 4, 8, 24, 28, 100]))])
        return [call] + [self.chance.choice(odd) for turn in range(lengths[call])]

    def move(self, number):
        unit = self.units[min(number, len(self.units) - 1)]
        alike = [other for other, kept in enumerate(self.units) if kept == unit and other != number]
        if not alike or self.chance.random() < 0.1:
            alike = range(1, len(self.units) + 1)
        return move(number, self.chance.choice(alike), self.many() // self.chance.choice([1, 2, 8]))

    def call(self):
        kind = self.chance.choices(KINDS, SHARES)[0]
        number = self.chance.randint(1, max(1, len(self.units)))
        if kind in ("coin", "thing", "account", "entry", "wild"):
            return getattr(self, kind)()
        if kind == "rate":
            return rate(self.chance.randint(1, len(self.coins)), self.chance.randint(1, 50), self.chance.randint(1, 50))
        if kind == "move":
            return self.move(number)
        made = {"open": OPEN, "revalue": REVALUE, "close": CLOSE, "correct": correct(self.chance.randint(1, 60)),
                "pass": pass_days(self.chance.randint(1, 300)), "balance": balance(number), "lots": lots(number)}
        return made[kind]

    def start(self):
        calls = [OPEN, account(1)]
        self.units.append(1)
        for turn in range(self.chance.randint(1, 3)):
            calls.append(self.coin())
            calls.append(self.thing())
        for unit in range(2, len(self.coins)):
            calls.append(rate(unit, self.chance.randint(1, 20), self.chance.randint(1, 20)))
        for turn in range(self.chance.randint(2, 8)):
            calls.append(self.account())
        return calls

    def calls(self, length):
        calls = self.start()
        return calls + [self.call() for turn in range(length - len(calls))]


def accepted(calls, told, number):
    return [answer for call, answer in zip(calls, told) if call[0] == number and answer[0] == 0]


class ModelTest(unittest.TestCase):
    def test_like_the_model(self):
        counts = {}
        for seed in range(250):
            calls = Writer(seed).calls(400 if seed % 5 == 0 else 120)
            model = Model()
            for call, answer in zip(calls, ask(calls)):
                self.assertEqual(answer, model.ask(call), (seed, call))
                counts[call[0], min(answer[0], 0)] = counts.get((call[0], min(answer[0], 0)), 0) + 1
        wanted = {0: [-3], 1: [-4], 2: [-1, -5, -4], 3: [-1, -6, -4], 4: [-1, -5], 5: [-1, -6, -7, -8, -4],
                  6: [-1, -9, -10], 7: [-1, -6, -7, -11], 8: [-12], 9: [], 10: [-1, -13], 11: [-1, -6], 12: [-1, -6]}
        for call, refusals in wanted.items():
            for answer in [0] + refusals:
                self.assertIn((call, answer), counts)


class PromiseTest(unittest.TestCase):
    def test_what_is_held_cost_what_was_gained(self):
        for seed in range(60):
            calls = Writer(1000 + seed).calls(370)
            told = ask(calls + [balance(number) for number in range(1, 25)])
            gained = sum(sum(answer[2:4]) for call in (5, 6) for answer in accepted(calls, told, call))
            cost = sum(answer[3] for answer in told[len(calls):] if answer[0] == 0)
            self.assertEqual(cost, gained)

    def test_worth_is_cost_and_gains_not_done(self):
        chance = random.Random(7)
        for turn in range(100):
            total, there, home = [chance.choice([-1, 1]) * chance.randint(1, 1000)] + [0, 0]
            side = 1 if total > 0 else -1
            there, home = side * chance.randint(0, 1000), side * chance.randint(0, 1000)
            price, under, coin, coin_under = [chance.randint(1, 40) for number in range(4)]
            calls = [OPEN, COIN, thing(2), account(1), account(3), dealt(2, total, there, home),
                     rate(3, price, under), rate(2, coin, coin_under), REVALUE, balance(2)]
            answer = ask(calls)[-1]
            worth = nearest(Fraction(nearest(Fraction(total * price, under)) * coin, coin_under))
            self.assertEqual(answer[3] + answer[4] + answer[5], worth)

    def test_moving_gains_nothing(self):
        for seed in range(40):
            calls = Writer(2000 + seed).calls(200) + [CLOSE]
            sums = [balance(number) for number in range(1, 25)]
            moves = [move(one, two, many) for one in range(1, 8) for two in range(1, 8) for many in (1, -1)]
            told = ask(calls + sums + moves + [CLOSE] + sums)
            before = [answer for answer in told[len(calls):len(calls) + 24] if answer[0] == 0]
            behind = [answer for answer in told[-24:] if answer[0] == 0]
            for place in (1, 2, 3):
                self.assertEqual(sum(answer[place] for answer in before), sum(answer[place] for answer in behind))
            if told[-25][0] == 0 and told[len(calls) - 1][0] == 0:
                self.assertEqual(told[-25][2:], [0, 0])

    def test_same_gains_by_every_rule_if_nothing_is_held(self):
        for seed in range(60):
            chance = random.Random(3000 + seed)
            deals = []
            held = 0
            for turn in range(30):
                many = chance.choice([-1, 1]) * chance.randint(1, 30)
                side = 1 if many > 0 else -1
                deals.append(dealt(2, many, side * chance.randint(0, 900), side * chance.randint(0, 900)))
                held += many
            if held:
                deals.append(dealt(2, -held, -held * 7, -held * 9))
            gains = []
            for rule in range(5):
                told = ask([OPEN, COIN, thing(2), account(1), account(3, 0, rule)] + deals + [lots(2), CLOSE])
                self.assertEqual(told[-2], [0, 0])
                gains.append(sum(told[-1][2:]))
            self.assertEqual(len(set(gains)), 1)
