"""What no call up to 12 shows of an entry, but what it has: its day, kind, reference, lines and their gains."""

import unittest

from coinledgers.books import House, rate_on
from coinledgers.makings import make_account, make_coin, make_house, make_thing, pass_days, tell_rate
from coinledgers.postings import close, correct, move, revalue, tell_entry


# Accounts: 1 at home, 2 and 3 in a thing that is priced in a coin.
def new_house():
    house = House()
    make_house(house)
    make_coin(house)
    make_thing(house, 2)
    for unit in (1, 3, 3):
        make_account(house, unit, 0, 0)
    return house


def shown(house):
    found = []
    for entry in house.entries:
        lines = [[line.account, line.many, line.there, line.home, line.gain.price, line.gain.rate]
                 for line in entry.lines]
        found.append([entry.day, entry.kind, entry.reference, lines])
    return found


class EntryTest(unittest.TestCase):
    def test_told_and_corrected(self):
        house = new_house()
        tell_entry(house, [2, 10, 100, 200, 1, -200, -200, -200])
        pass_days(house, 3)
        tell_entry(house, [2, -10, -150, -450, 1, 450, 450, 450])
        pass_days(house, 2)
        correct(house, 2)
        correct(house, 2)
        self.assertEqual(shown(house), [
            [0, 0, 0, [[2, 10, 100, 200, 0, 0], [1, -200, -200, -200, 0, 0]]],
            [3, 0, 0, [[2, -10, -150, -450, 150, 100], [1, 450, 450, 450, 0, 0]]],
            [5, 1, 2, [[2, 10, 150, 450, 0, 0], [1, -450, -450, -450, 0, 0]]],
        ])

    def test_moved(self):
        house = new_house()
        tell_entry(house, [2, 10, 100, 200, 1, -200, -200, -200])
        move(house, 2, 3, 4)
        self.assertEqual(shown(house)[1], [0, 2, 0, [[2, -4, -40, -80, 0, 0], [3, 4, 40, 80, 0, 0]]])

    def test_valued_anew_and_closed(self):
        house = new_house()
        revalue(house)
        close(house)
        self.assertEqual(shown(house), [[0, 3, 0, []], [0, 4, 0, []]])


class RateTest(unittest.TestCase):
    def test_on_a_day(self):
        house = new_house()
        pass_days(house, 2)
        tell_rate(house, 2, 1, 1)
        tell_rate(house, 2, 2, 1)
        tell_rate(house, 3, 9, 1)
        pass_days(house, 3)
        tell_rate(house, 2, 3, 1)
        self.assertIsNone(rate_on(house, 2, 1))
        self.assertEqual([rate_on(house, 2, day).over for day in (2, 3, 4, 5, 6, 3999)], [2, 2, 2, 3, 3, 3])
        self.assertEqual([rate_on(house, 2, day).day for day in (2, 4, 5, 3999)], [2, 2, 5, 5])
        self.assertEqual(rate_on(house, 3, 2).over, 9)

    def test_home(self):
        rate = rate_on(new_house(), 1, 0)
        self.assertEqual((rate.over, rate.under), (1, 1))
