from tests.ledger import CLOSE, OPEN, REVALUE, UNITS, LedgerCase, account, ask, balance, correct, dealt, entry, house
from tests.ledger import move, pass_days, rate


class RevalueTest(LedgerCase):
    def test_nothing_held(self):
        self.check_last([OPEN, REVALUE], [0, 1, 0, 0])
        self.check_last(house() + [REVALUE], [0, 1, 0, 0])

    def test_home_needs_no_rate(self):
        calls = [OPEN, account(1), account(1), entry(1, 5, 5, 5, 2, -5, -5, -5), REVALUE]
        self.check_last(calls, [0, 2, 0, 0])
        self.check_last(calls + [balance(1)], [0, 5, 5, 5, 0, 0])

    def test_coin(self):
        calls = house() + [dealt(2, 10, 10, 15), rate(2, 7, 4), REVALUE]
        # 10 by 7/4 is 17 and a half: 18.
        self.check_last(calls, [0, 2, 0, 3])
        self.check_last(calls + [balance(2)], [0, 10, 10, 15, 0, 3])

    def test_coin_owed(self):
        calls = house() + [dealt(2, -10, -10, -15), rate(2, 7, 4), REVALUE]
        self.check_last(calls, [0, 2, 0, -3])

    def test_thing_at_home(self):
        calls = house() + [dealt(3, 10, 100, 90), rate(3, 23, 2), REVALUE]
        self.check_last(calls, [0, 2, 15, 10])

    def test_thing_in_a_coin(self):
        calls = house() + [dealt(4, 10, 100, 200), rate(4, 23, 2), rate(2, 5, 2), REVALUE]
        # Worth 115 there, 288 at home; 15 by 5/2 is 38.
        self.check_last(calls, [0, 2, 38, 50])
        self.check_last(calls + [balance(4)], [0, 10, 100, 200, 38, 50])

    def test_worth_nothing_there(self):
        calls = house() + [dealt(4, 1, 10, 20), rate(4, 1, 3)]
        self.check_refused(calls, REVALUE, -12)
        self.check_last(calls + [rate(2, 5, 2), REVALUE], [0, 2, -25, 5])

    def test_all_accounts_together(self):
        calls = house() + [dealt(2, 10, 10, 15), dealt(3, 10, 100, 90), dealt(4, 10, 100, 200)]
        calls = calls + [rate(2, 2, 1), rate(3, 11, 1), rate(4, 11, 1), REVALUE]
        self.check_last(calls, [0, 4, 0 + 10 + 20, 5 + 10 + 0])

    def test_change(self):
        first = house() + [dealt(2, 10, 10, 15), rate(2, 2, 1), REVALUE]
        self.check_last(first, [0, 2, 0, 5])
        self.check_last(first + [REVALUE], [0, 3, 0, 0])
        self.check_last(first + [pass_days(1), rate(2, 1, 1), REVALUE], [0, 3, 0, -10])
        sold = first + [dealt(2, -10, -10, -20)]
        self.check_last(sold + [balance(2)], [0, 0, 0, 0, 0, 5])
        self.check_last(sold + [REVALUE], [0, 4, 0, -5])
        self.check_last(sold + [REVALUE, balance(2)], [0, 0, 0, 0, 0, 0])

    def test_told_until_told_anew(self):
        first = house() + [dealt(2, 10, 10, 15), rate(2, 2, 1), REVALUE]
        self.check_last(first + [rate(2, 9, 1), pass_days(3), balance(2)], [0, 10, 10, 15, 0, 5])

    def test_moved_lots_leave_what_was_told(self):
        calls = UNITS + [account(1), account(2), account(2), dealt(2, 10, 10, 15), rate(2, 2, 1), REVALUE]
        calls = calls + [move(2, 3, 10)]
        self.check_last(calls + [balance(2)], [0, 0, 0, 0, 0, 5])
        self.check_last(calls + [balance(3)], [0, 10, 10, 15, 0, 0])
        self.check_last(calls + [REVALUE], [0, 4, 0, 0])
        self.check_last(calls + [REVALUE, balance(3)], [0, 10, 10, 15, 0, 5])

    def test_no_rate(self):
        self.check_refused(house() + [dealt(2, 1, 1, 1)], REVALUE, -12)
        self.check_refused(house() + [dealt(3, 1, 1, 1)], REVALUE, -12)
        self.check_refused(house() + [dealt(4, 1, 1, 1), rate(4, 1, 1)], REVALUE, -12)
        self.check_refused(house() + [dealt(4, 1, 1, 1), rate(2, 1, 1)], REVALUE, -12)
        both = house() + [dealt(2, 10, 10, 15), rate(2, 2, 1), REVALUE, rate(2, 3, 1), dealt(3, 1, 1, 1)]
        self.check_refused(both, REVALUE, -12)

    def test_rate_of_an_account_without_lots(self):
        calls = house() + [dealt(2, 1, 1, 1), dealt(2, -1, -1, -1), REVALUE]
        self.check_last(calls, [0, 3, 0, 0])

    def test_gains_not_done_are_not_done(self):
        calls = house() + [dealt(2, 10, 10, 15), rate(2, 2, 1), REVALUE, CLOSE]
        self.check_last(calls, [0, 3, 0, 0])

    def test_151st(self):
        full = house() + [CLOSE] * 149
        self.check_last(full + [REVALUE], [0, 150, 0, 0])
        self.check_refused(full + [CLOSE], REVALUE, -4)
        held = house() + [dealt(2, 10, 10, 15)] + [CLOSE] * 149
        self.check_refused(held, REVALUE, -12)
        self.check_refused(held + [rate(2, 1, 1)], REVALUE, -4)


class CloseTest(LedgerCase):
    def test_nothing_gained(self):
        self.check_last([OPEN, CLOSE], [0, 1, 0, 0])

    def test_since_the_last(self):
        calls = house() + [dealt(4, 10, 100, 200), dealt(4, -5, -75, -225), CLOSE, CLOSE,
                           dealt(4, -5, -50, -90), CLOSE]
        told = ask(calls)
        self.assertEqual(told[-5], [0, 2, 75, 50])
        self.assertEqual(told[-4], [0, 3, 75, 50])
        self.assertEqual(told[-3], [0, 4, 0, 0])
        self.assertEqual(told[-1], [0, 6, 0, -10])

    def test_corrections_count(self):
        calls = house() + [dealt(3, 10, 100, 100), dealt(3, 10, 300, 300), correct(2), CLOSE]
        self.check_last(calls, [0, 4, 200, 0])

    def test_all_entries_together(self):
        calls = house() + [dealt(3, 10, 100, 100), dealt(3, -1, -20, -20), dealt(3, -1, -5, -5), CLOSE]
        self.check_last(calls, [0, 4, 10 - 5, 0])

    def test_151st(self):
        self.check_last([OPEN] + [CLOSE] * 150, [0, 150, 0, 0])
        self.check_refused([OPEN] + [CLOSE] * 150, CLOSE, -4)
        gained = house() + [dealt(3, 10, 100, 100)] + [CLOSE] * 148 + [dealt(3, -10, -200, -200)]
        self.check_refused(gained, CLOSE, -4)
