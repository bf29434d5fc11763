from tests.ledger import CLOSE, OPEN, UNITS, LedgerCase, account, ask, balance, dealt, lots, move

THREE_LOTS = [dealt(2, 10, 100, 110), dealt(2, 10, 300, 330), dealt(2, 10, 200, 220)]


# Accounts: 1 at home, 2 and 3 in the coin's thing by a rule, 4 in the other thing, 5 at home, 6 in the coin.
def two_houses(rule=0):
    return UNITS + [account(1), account(4, 0, rule), account(4, 0, 4 - rule), account(3), account(1), account(2)]


class MoveTest(LedgerCase):
    def test_by_each_rule(self):
        wanted = {
            0: ([250, 275], [5, 150, 165, 10, 200, 220], [10, 100, 110, 5, 150, 165]),
            1: ([350, 385], [10, 100, 110, 5, 150, 165], [10, 200, 220, 5, 150, 165]),
            2: ([400, 440], [10, 100, 110, 5, 100, 110], [10, 300, 330, 5, 100, 110]),
            3: ([200, 220], [10, 300, 330, 5, 100, 110], [10, 100, 110, 5, 100, 110]),
            4: ([300, 330], [15, 300, 330], [15, 300, 330]),
        }
        for rule, (cost, left, moved) in wanted.items():
            told = ask(two_houses(rule) + THREE_LOTS + [move(2, 3, 15), lots(2), lots(3), CLOSE])
            self.assertEqual(told[-4], [0, 4] + cost, rule)
            self.assertEqual(told[-3], [0, len(left) // 3] + left, rule)
            self.assertEqual(told[-2], [0, len(moved) // 3] + moved, rule)
            self.assertEqual(told[-1], [0, 5, 0, 0], rule)

    def test_behind_what_the_second_holds(self):
        calls = two_houses() + THREE_LOTS + [dealt(3, 1, 7, 7), move(2, 3, 10)]
        self.check_last(calls + [lots(3)], [0, 2, 1, 7, 7, 10, 100, 110])

    def test_owed(self):
        owed = [dealt(2, -10, -100, -110), dealt(2, -3, -5, -7)]
        calls = two_houses(1) + owed + [dealt(3, -1, -1, -1), move(2, 3, -5)]
        self.check_last(calls, [0, 4, -25, -29])
        self.check_last(calls + [lots(2)], [0, 1, -8, -80, -88])
        self.check_last(calls + [lots(3)], [0, 3, -1, -1, -1, -3, -5, -7, -2, -20, -22])

    def test_halves(self):
        for sign in (1, -1):
            calls = two_houses() + [dealt(2, sign * 2, sign * 3, sign * 5), move(2, 3, sign)]
            self.check_last(calls, [0, 2, sign * 2, sign * 3])
            self.check_last(calls + [lots(2)], [0, 1, sign, sign, sign * 2])

    def test_all(self):
        calls = two_houses() + THREE_LOTS + [move(2, 3, 30)]
        self.check_last(calls, [0, 4, 600, 660])
        self.check_last(calls + [lots(2)], [0, 0])
        self.check_last(calls + [balance(3)], [0, 30, 600, 660, 0, 0])

    def test_coins_move(self):
        before = UNITS + [account(1), account(2), account(2), dealt(2, 10, 10, 25)]
        self.check_last(before + [move(2, 3, 3)], [0, 2, 3, 8])

    def test_range(self):
        before = two_houses() + THREE_LOTS
        wrong = [move(0, 3, 1), move(25, 3, 1), move(2, 0, 1), move(2, 25, 1), move(2, 3, 1000000001),
                 move(2, 3, -1000000001), move(2, -3, 1)]
        for call in wrong:
            self.check_refused(before, call, -1)
            self.check_refused([], call, -1)

    def test_last_amount(self):
        most = 1000000000
        for sign in (1, -1):
            before = two_houses() + [dealt(2, sign * most, sign, sign)] * 2
            self.check_last(before + [move(2, 3, sign * most)], [0, 3, sign, sign])

    def test_no_such_account(self):
        before = two_houses() + THREE_LOTS
        for call in (move(7, 3, 1), move(2, 7, 1), move(24, 24, 0), move(1, 7, 0)):
            self.check_refused(before, call, -6)

    def test_misfit(self):
        before = two_houses() + THREE_LOTS
        for call in (move(2, 2, 1), move(2, 4, 1), move(2, 1, 1), move(1, 5, 1), move(1, 1, 1), move(2, 6, 1),
                     move(2, 2, 0), move(5, 1, 0), move(4, 2, 1), move(6, 2, 1), move(1, 2, 1)):
            self.check_refused(before, call, -7)

    def test_not_movable(self):
        before = two_houses() + THREE_LOTS
        for call in (move(2, 3, 0), move(2, 3, -1), move(2, 3, 31), move(3, 2, 1), move(3, 2, -1), move(3, 2, 0)):
            self.check_refused(before, call, -11)

    def test_not_movable_owed(self):
        before = two_houses() + [dealt(2, -5, -5, -5)]
        for call in (move(2, 3, 0), move(2, 3, 1), move(2, 3, -6)):
            self.check_refused(before, call, -11)
        self.check_last(before + [move(2, 3, -5)], [0, 2, -5, -5])

    def test_against_what_the_second_holds(self):
        self.check_refused(two_houses() + THREE_LOTS + [dealt(3, -1, -1, -1)], move(2, 3, 1), -11)
        self.check_refused(two_houses() + [dealt(2, -5, -5, -5), dealt(3, 1, 1, 1)], move(2, 3, -1), -11)

    def test_lots_that_cost_nothing(self):
        before = two_houses() + [dealt(2, 5, 0, 0), dealt(2, 5, 0, 0)]
        self.check_last(before + [move(2, 3, 7), lots(2)], [0, 1, 3, 0, 0])
        self.check_last(before + [move(2, 3, 7), lots(3)], [0, 2, 5, 0, 0, 2, 0, 0])
        self.check_refused(before + [dealt(3, -1, 0, 0)], move(2, 3, 1), -11)

    def test_151st(self):
        full = two_houses() + [dealt(2, 5, 5, 5)] + [CLOSE] * 148
        self.check_last(full + [move(2, 3, 1)], [0, 150, 1, 1])
        full = full + [CLOSE]
        self.check_refused(full, move(2, 3, 1), -4)
        self.check_refused(full, move(2, 3, 6), -11)
        self.check_refused(full, move(2, 4, 6), -7)
        self.check_refused(full, move(2, 9, 6), -6)

    def test_no_accounts(self):
        self.check_refused([OPEN], move(1, 2, 1), -6)
