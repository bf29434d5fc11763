from tests.ledger import CLOSE, COIN, OPEN, REVALUE, LedgerCase, account, ask, balance, dealt, entry, house
from tests.ledger import last, pass_days, rate, thing


class OpenTest(LedgerCase):
    def test_opens(self):
        self.check_last([OPEN], [0])

    def test_has_unit_1(self):
        self.assertEqual(ask([OPEN, account(1), account(2)]), [[0], [0, 1], [-5]])

    def test_open_already(self):
        self.check_refused([OPEN], OPEN, -3)
        self.check_refused(house(), OPEN, -3)

    def test_nothing_before(self):
        calls = [COIN, thing(1), account(1), rate(2, 1, 1), entry(1, 1, 1, 1), [6, 1], [7, 1, 2, 1],
                 REVALUE, CLOSE, pass_days(1), balance(1), [12, 1]]
        for call in calls:
            self.check_refused([], call, -2)
        self.assertEqual(ask(calls), [[-2]] * len(calls))


class CoinTest(LedgerCase):
    def test_numbers(self):
        self.assertEqual(ask([OPEN] + [COIN] * 9), [[0]] + [[0, number] for number in range(2, 11)])

    def test_11th(self):
        self.check_refused([OPEN] + [COIN] * 9, COIN, -4)
        self.check_refused([OPEN] + [thing(1)] * 9, COIN, -4)


class ThingTest(LedgerCase):
    def test_numbers(self):
        self.assertEqual(ask([OPEN, thing(1), COIN, thing(3)]), [[0], [0, 2], [0, 3], [0, 4]])

    def test_no_such_unit(self):
        self.check_refused([OPEN], thing(2), -5)
        self.check_refused([OPEN], thing(10), -5)

    def test_priced_in_a_thing(self):
        self.check_refused([OPEN, thing(1)], thing(2), -5)

    def test_11th(self):
        full = [OPEN] + [COIN] * 8
        self.check_last(full + [thing(9)], [0, 10])
        self.check_refused(full + [thing(9)], thing(9), -4)
        self.check_refused(full + [thing(9)], thing(10), -5)

    def test_range(self):
        for coin in (0, 11, -1, 10 ** 18, -10 ** 18):
            self.check_refused([OPEN, COIN], thing(coin), -1)


class AccountTest(LedgerCase):
    def test_numbers(self):
        made = [account(1), account(2, 1, 4), account(1, 2, 1), account(2, 0, 2), account(2, 1, 3)]
        self.assertEqual(ask([OPEN, COIN] + made)[2:], [[0, number] for number in range(1, 6)])

    def test_no_such_unit(self):
        self.check_refused([OPEN], account(2), -5)
        self.check_refused([OPEN], account(10, 5), -5)

    def test_no_such_parent(self):
        self.check_refused([OPEN], account(1, 1), -6)
        self.check_refused([OPEN, account(1)], account(1, 2), -6)
        self.check_refused([OPEN, account(1)], account(1, 24), -6)

    def test_25th(self):
        full = [OPEN] + [account(1)] * 23
        self.check_last(full + [account(1, 23)], [0, 24])
        full = full + [account(1)]
        self.check_refused(full, account(1), -4)
        self.check_refused(full, account(1, 24), -4)
        self.check_refused(full, account(2), -5)

    def test_range(self):
        wrong = [account(0), account(11), account(1, -1), account(1, 25), account(1, 0, -1), account(1, 0, 5),
                 account(10 ** 18), account(1, -10 ** 18), account(9, 24, 5)]
        for call in wrong:
            self.check_refused([OPEN], call, -1)
            self.check_refused([], call, -1)


class RateTest(LedgerCase):
    def test_told(self):
        self.check_last([OPEN, COIN, rate(2, 1, 1)], [0])
        self.check_last([OPEN, thing(1), rate(2, 1000000, 1000000)], [0])

    def test_no_such_unit(self):
        self.check_refused([OPEN], rate(2, 1, 1), -5)
        self.check_refused([OPEN, COIN], rate(3, 1, 1), -5)
        self.check_refused([OPEN, COIN], rate(1, 1, 1), -5)

    def test_range(self):
        before = house() + [dealt(2, 10, 10, 10), rate(2, 3, 2)]
        wrong = [rate(0, 1, 1), rate(11, 1, 1), rate(2, 0, 1), rate(2, 1000001, 1), rate(2, 1, 0),
                 rate(2, 1, 1000001), rate(2, -1, 1), rate(2, 1, -1)]
        for call in wrong:
            self.check_refused(before, call, -1)

    def test_latest_told_last(self):
        before = house() + [dealt(2, 10, 10, 10), rate(2, 3, 1), rate(2, 5, 1), rate(2, 2, 1)]
        self.check_last(before + [REVALUE], [0, 2, 0, 10])
        self.check_last(before + [pass_days(1000), REVALUE], [0, 2, 0, 10])
        self.check_last(before + [pass_days(1), rate(2, 4, 1), REVALUE], [0, 2, 0, 30])

    def test_of_another_unit(self):
        before = [OPEN, COIN, COIN, account(1), account(2), account(3), dealt(2, 10, 10, 10), dealt(3, 10, 10, 10)]
        self.check_last(before + [rate(2, 2, 1), rate(3, 5, 1), REVALUE], [0, 3, 0, 50])
        self.check_refused(before + [rate(2, 2, 1)], REVALUE, -12)


class PassTest(LedgerCase):
    def test_passes(self):
        self.assertEqual(ask([OPEN, pass_days(1), pass_days(1000)]), [[0], [0, 1], [0, 1001]])

    def test_day_3999(self):
        before = [OPEN, pass_days(1000), pass_days(1000), pass_days(1000)]
        self.check_last(before + [pass_days(999)], [0, 3999])
        self.check_refused(before, pass_days(1000), -13)
        self.check_refused(before + [pass_days(999)], pass_days(1), -13)
        self.assertEqual(last(before + [pass_days(1000), pass_days(998), pass_days(1)]), [0, 3999])

    def test_range(self):
        for days in (0, -1, 1001, 10 ** 18):
            self.check_refused([OPEN], pass_days(days), -1)
            self.check_refused([], pass_days(days), -1)
