import random
import unittest
from fractions import Fraction

from coinledgers.houses import answers
from tests.ledger import CLOSE, COIN, GAINS, LAST_DAY, OPEN, REVALUE, STATE, TRIAL, account, account_told, ask, balance
from tests.ledger import dealt, entry_info, flat, known, known_on, lots, move, rate, thing, tree, worth
from tests.model import Model, nearest
from tests.writer import Writer


def accepted(calls, told, number):
    return [answer for call, answer in zip(calls, told) if call[0] == number and answer[0] == 0]


class ModelTest(unittest.TestCase):
    def test_like_the_model(self):
        counts = {}
        for seed in range(300):
            calls = Writer(seed).calls(400 if seed % 5 == 1 else 150)
            # So that the entries are full before the calls are over.
            if seed % 5 == 0:
                calls = calls[:60] + [CLOSE] * 90 + Writer(seed).calls(400)[60:310]
            model = Model()
            for call, answer in zip(calls, ask(calls), strict=True):
                self.assertEqual(answer, model.ask(call), (seed, call))
                counts[call[0], min(answer[0], 0)] = counts.get((call[0], min(answer[0], 0)), 0) + 1
        wanted = {0: [-3], 1: [-2, -4], 2: [-1, -2, -5, -4], 3: [-1, -6, -4], 4: [-1, -5], 5: [-1, -6, -7, -8, -4],
                  6: [-1, -9, -10], 7: [-1, -6, -7, -11], 8: [-2, -12], 9: [-2], 10: [-1, -13], 11: [-1, -6],
                  12: [-1, -6], 13: [-1, -6, -12], 14: [-1, -6], 15: [-2], 16: [-1, -9], 17: [-1, -6], 18: [-1, -6],
                  19: [-2], 20: [-1, -6, -7], 21: [-1, -5, -12], 22: [-1, -5], 23: [-1, -6], 24: [-2]}
        for call, refusals in wanted.items():
            for answer in [0] + refusals:
                self.assertIn((call, answer), counts)


class PromiseTest(unittest.TestCase):
    def test_what_is_held_cost_what_was_gained(self):
        for seed in range(60):
            calls = Writer(1000 + seed).calls(370)
            told = ask(calls + [balance(number) for number in range(1, 25)])
            gained = sum(sum(answer[2:4]) for call in (5, 6) for answer in accepted(calls, told, call))
            cost = sum(answer[3] for answer in told[len(calls):] if answer[0] == 0)
            self.assertEqual(cost, gained)

    def test_worth_is_cost_and_gains_not_done(self):
        chance = random.Random(7)
        for turn in range(100):
            total, there, home = [chance.choice([-1, 1]) * chance.randint(1, 1000)] + [0, 0]
            side = 1 if total > 0 else -1
            there, home = side * chance.randint(0, 1000), side * chance.randint(0, 1000)
            price, under, coin, coin_under = [chance.randint(1, 40) for number in range(4)]
            calls = [OPEN, COIN, thing(2), account(1), account(3), dealt(2, total, there, home),
                     rate(3, price, under), rate(2, coin, coin_under), REVALUE, balance(2)]
            answer = ask(calls)[-1]
            worth = nearest(Fraction(nearest(Fraction(total * price, under)) * coin, coin_under))
            self.assertEqual(answer[3] + answer[4] + answer[5], worth)

    def test_moving_gains_nothing(self):
        for seed in range(40):
            calls = Writer(2000 + seed).calls(200) + [CLOSE]
            sums = [balance(number) for number in range(1, 25)]
            moves = [move(one, two, many) for one in range(1, 8) for two in range(1, 8) for many in (1, -1)]
            told = ask(calls + sums + moves + [CLOSE] + sums)
            before = [answer for answer in told[len(calls):len(calls) + 24] if answer[0] == 0]
            behind = [answer for answer in told[-24:] if answer[0] == 0]
            for place in (1, 2, 3):
                self.assertEqual(sum(answer[place] for answer in before), sum(answer[place] for answer in behind))
            if told[-25][0] == 0 and told[len(calls) - 1][0] == 0:
                self.assertEqual(told[-25][2:], [0, 0])

    def test_same_gains_by_every_rule_if_nothing_is_held(self):
        for seed in range(60):
            chance = random.Random(3000 + seed)
            deals = []
            held = 0
            for turn in range(30):
                many = chance.choice([-1, 1]) * chance.randint(1, 30)
                side = 1 if many > 0 else -1
                deals.append(dealt(2, many, side * chance.randint(0, 900), side * chance.randint(0, 900)))
                held += many
            if held:
                deals.append(dealt(2, -held, -held * 7, -held * 9))
            gains = []
            for rule in range(5):
                told = ask([OPEN, COIN, thing(2), account(1), account(3, 0, rule)] + deals + [lots(2), CLOSE])
                self.assertEqual(told[-2], [0, 0])
                gains.append(sum(told[-1][2:]))
            self.assertEqual(len(set(gains)), 1)


# Each of these is asked behind, or between, the calls of a long mixed line.
class MixedLineTest(unittest.TestCase):
    def each(self, first, length=200):
        for seed in range(40):
            yield Writer(first + seed).calls(length)

    def test_trial_is_even_at_every_step(self):
        for calls in self.each(4000):
            between = [both for call in calls for both in (call, TRIAL)]
            for answer in ask(between)[1::2]:
                if answer == [-2]:
                    continue
                units, cost, done = answer[1:-3], answer[-3], answer[-2:]
                self.assertEqual([-number for number in units[::2]], units[1::2])
                self.assertEqual(cost, sum(done))

    def test_every_entry_is_even(self):
        kinds = set()
        for calls in self.each(4100, 250):
            told = ask(calls + [entry_info(number) for number in range(1, 151)])
            infos = {number: answer for number, answer in enumerate(told[-150:], 1) if answer != [-9]}
            for number, answer in infos.items():
                kinds.add(answer[2])
                self.assertEqual(sum(answer[8::6]), 0)
                self.assertEqual(len(answer), 5 + 6 * answer[4])
                self.assertEqual(answer[3] != 0, answer[2] == 1)
            for call, answer in zip(calls, told):
                if call[0] in (5, 6) and answer[0] == 0:
                    info = infos[answer[1]]
                    self.assertEqual(answer[2:], [sum(info[9::6]), sum(info[10::6])])
                if call[0] == 7 and answer[0] == 0:
                    lines = infos[answer[1]][5:]
                    self.assertEqual(lines[4:6] + lines[10:], [0] * 4)
                    self.assertEqual(lines[1:4], [-number for number in lines[7:10]])
                    self.assertEqual(lines[8:10], answer[2:])
                if call[0] in (8, 9) and answer[0] == 0:
                    self.assertEqual(infos[answer[1]][3:], [0, 0])
        self.assertEqual(kinds, {0, 1, 2, 3, 4})

    def test_worth_is_cost_and_gains_not_done(self):
        seen = 0
        for calls in self.each(4200):
            numbers = range(1, 25)
            days = (0, 50, 400, LAST_DAY)
            told = ask(calls + [balance(number) for number in numbers]
                       + [worth(number, day) for day in days for number in numbers])[len(calls):]
            for place, answer in enumerate(told[24:]):
                if answer[0] == 0:
                    self.assertEqual(answer[2], told[place % 24][3] + answer[3] + answer[4])
                    seen += 1
        self.assertGreater(seen, 1000)

    def test_moving_gains_nothing(self):
        seen = 0
        for calls in self.each(4300, 130):
            told = ask([asked for call in calls for asked in (call, GAINS, TRIAL)])
            for place, call in enumerate(calls):
                if call[0] == 7 and told[3 * place][0] == 0:
                    self.assertEqual(told[3 * place - 2:3 * place], told[3 * place + 1:3 * place + 3])
                    seen += 1
        self.assertGreater(seen, 20)

    def test_what_was_known_never_changes(self):
        seen = 0
        for calls in self.each(4400):
            model = Model()
            for call in calls[:100]:
                model.ask(call)
            numbers = list(model.account)[:8]
            asked = [known(number, len(model.entry) - less) for number in numbers
                     for less in (0, 1, 7) if less <= len(model.entry)]
            asked += [known_on(number, model.day - ago) for number in numbers for ago in (1, 20) if ago <= model.day]
            told = ask(calls[:100] + asked + calls[100:] + asked)
            self.assertEqual(told[100:100 + len(asked)], told[-len(asked):])
            seen += len([answer for answer in told[-len(asked):] if any(answer)])
        self.assertGreater(seen, 300)

    def test_known_by_all_is_what_is_held(self):
        for calls in self.each(4500):
            told = ask(calls + [asked for number in range(1, 25) for asked in (
                balance(number), known(number, 150), known_on(number, LAST_DAY))])[len(calls):]
            for held, by_entries, by_days in zip(told[::3], told[1::3], told[2::3]):
                self.assertEqual(held[:2], by_entries[:2])
                self.assertEqual(held[:2], by_days)

    def test_gains_are_what_was_answered(self):
        for calls in self.each(4600, 300):
            told = ask(calls + [GAINS])
            done = [sum(answer[place] for number in (5, 6) for answer in accepted(calls, told, number))
                    for place in (2, 3)]
            closed, not_done = [[sum(answer[place] for answer in accepted(calls, told, number)) for place in (2, 3)]
                                for number in (9, 8)]
            self.assertEqual(told[-1], [0] + done + closed + not_done)

    def test_trees_make_the_house(self):
        for calls in self.each(4700, 300):
            numbers = range(1, 25)
            told = ask(calls + [STATE, TRIAL, GAINS] + [account_told(number) for number in numbers]
                       + [tree(number) for number in numbers])[len(calls):]
            state, trial, gains = told[:3]
            tops = [of for account_is, of in zip(told[3:27], told[27:]) if account_is[0] == 0 and account_is[2] == 0]
            self.assertEqual([sum(of[place] for of in tops) for place in (1, 2, 3)],
                             [state[4], trial[-3], gains[5] + gains[6]])

    def test_telling_changes_nothing(self):
        for calls in self.each(4800, 400):
            told = ask(calls)
            changing = [call for call in calls if call[0] <= 10]
            self.assertLess(len(changing), len(calls))
            self.assertEqual(ask(changing), [answer for call, answer in zip(calls, told) if call[0] <= 10])

    def test_refused_calls_change_nothing(self):
        for calls in self.each(4900, 400):
            told = ask(calls)
            kept = [(call, answer) for call, answer in zip(calls, told) if answer[0] == 0]
            self.assertLess(len(kept), len(calls))
            self.assertEqual(ask([call for call, answer in kept]), [answer for call, answer in kept])

    def test_what_is_handed_in_stays(self):
        for calls in self.each(5000, 400):
            handed = flat(calls)
            self.assertLessEqual(len(handed), 17000)
            first = answers(handed)
            self.assertEqual(handed, flat(calls))
            self.assertEqual(answers(handed), first)

    def test_same_gains_by_every_rule_if_no_lots_are_held(self):
        for seed in range(40):
            writer = Writer(5100 + seed)
            writer.size = min(writer.size, 1000)
            calls = writer.calls(150)
            found = []
            for rule in range(5):
                ruled = [call[:3] + [rule] if call[0] == 3 and 0 <= call[3] <= 4 else call for call in calls]
                found.append(self.gains_when_all_is_sold(ruled))
            self.assertEqual(len(set(found)), 1)

    def gains_when_all_is_sold(self, calls):
        numbers = range(1, 25)
        units = [answer[1] if answer[0] == 0 else 1 for answer in ask(calls + [[23, k] for k in numbers])[-24:]]
        held = [answer[1] if answer[0] == 0 else 0 for answer in ask(calls + [balance(k) for k in numbers])[-24:]]
        sold = [dealt(number, -many, -many, -many) for number, unit, many in zip(numbers, units, held)
                if unit != 1 and many]
        told = ask(calls + sold + [lots(k) for k in numbers] + [GAINS])
        for unit, answer in zip(units, told[-25:-1]):
            self.assertTrue(unit == 1 or answer == [0, 0])
        return sum(told[-1][1:3])
