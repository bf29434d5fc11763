from tests.ledger import OPEN, LedgerCase, account, ask, balance, dealt, entry, house, lots


class BalanceTest(LedgerCase):
    def test_new(self):
        for number in (1, 2, 3, 4):
            self.check_last(house() + [balance(number)], [0, 0, 0, 0, 0, 0])

    def test_lots_together(self):
        calls = house() + [dealt(4, 10, 100, 200), dealt(4, 3, 4, 5), balance(4), balance(1)]
        self.assertEqual(ask(calls)[-2:], [[0, 13, 104, 205, 0, 0], [0, -205, -205, -205, 0, 0]])

    def test_owed(self):
        self.check_last(house() + [dealt(4, -10, -100, -200), balance(4)], [0, -10, -100, -200, 0, 0])

    def test_range(self):
        for number in (0, -1, 25, 10 ** 18, -10 ** 18):
            self.check_refused(house(), balance(number), -1)
            self.check_refused([], balance(number), -1)

    def test_no_such_account(self):
        self.check_refused([OPEN], balance(1), -6)
        self.check_refused(house(), balance(5), -6)
        self.check_refused(house(), balance(24), -6)

    def test_24th(self):
        self.check_last([OPEN] + [account(1)] * 24 + [balance(24)], [0, 0, 0, 0, 0, 0])


class LotsTest(LedgerCase):
    def test_none(self):
        for number in (1, 2, 3, 4):
            self.check_last(house() + [lots(number)], [0, 0])

    def test_home(self):
        calls = [OPEN, account(1), account(1), entry(1, 5, 5, 5, 2, -5, -5, -5)]
        self.check_last(calls + [lots(1)], [0, 1, 5, 5, 5])
        self.check_last(calls + [lots(2)], [0, 1, -5, -5, -5])
        again = entry(1, 2, 2, 2, 2, -2, -2, -2)
        self.check_last(calls + [again, lots(1)], [0, 1, 7, 7, 7])
        back = entry(1, -5, -5, -5, 2, 5, 5, 5)
        self.check_last(calls + [back, lots(1)], [0, 0])

    def test_in_order(self):
        calls = house() + [dealt(2, 3, 3, 9), dealt(2, 1, 1, 1), dealt(2, 2, 2, 4), lots(2)]
        self.check_last(calls, [0, 3, 3, 3, 9, 1, 1, 1, 2, 2, 4])

    def test_range(self):
        for number in (0, -1, 25, 10 ** 18, -10 ** 18):
            self.check_refused(house(), lots(number), -1)
            self.check_refused([], lots(number), -1)

    def test_no_such_account(self):
        self.check_refused([OPEN], lots(1), -6)
        self.check_refused(house(), lots(5), -6)
        self.check_refused(house(), lots(24), -6)

    def test_24th(self):
        self.check_last([OPEN] + [account(1)] * 24 + [lots(24)], [0, 0])
