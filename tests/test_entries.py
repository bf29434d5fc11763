from tests.ledger import CLOSE, OPEN, LedgerCase, ask, balance, dealt, entry, house, last, lots

MOST = 1000000000


class LinesTest(LedgerCase):
    def test_home_account_holds(self):
        calls = [OPEN, [3, 1, 0, 0], [3, 1, 0, 0], entry(1, 7, 7, 7, 2, -7, -7, -7)]
        self.check_last(calls, [0, 1, 0, 0])
        self.check_last(calls + [balance(1)], [0, 7, 7, 7, 0, 0])
        self.check_last(calls + [balance(2)], [0, -7, -7, -7, 0, 0])

    def test_numbers_go_on(self):
        calls = house() + [dealt(2, 1, 1, 1), CLOSE, dealt(2, 1, 1, 1)]
        self.assertEqual([answer[1] for answer in ask(calls)[-3:]], [1, 2, 3])

    def test_one_to_six_lines(self):
        for many in range(1, 7):
            self.check_last(house() + [entry(*([3, 1, 0, 0] * many))], [0, 1, 0, 0])

    def test_other_lengths(self):
        lines = [3, 1, 0, 0] * 25
        for many in range(101):
            if many in (4, 8, 12, 16, 20, 24):
                continue
            self.check_refused(house(), entry(*lines[:many]), -1)
            self.assertEqual(last([entry(*lines[:many])]), [-1])

    def test_lines_in_order(self):
        first = entry(3, 10, 10, 10, 3, -10, -30, -30, 1, 20, 20, 20)
        self.check_last(house() + [first], [0, 1, 20, 0])
        self.check_last(house() + [first, lots(3)], [0, 0])
        second = entry(3, -10, -30, -30, 3, 4, 8, 8, 3, 10, 10, 10, 1, 12, 12, 12)
        self.check_last(house() + [second], [0, 1, 4 + 12, 0])
        self.check_last(house() + [second, lots(3)], [0, 1, 4, 4, 4])

    def test_gains_of_all_lines_together(self):
        before = house() + [dealt(2, 10, 10, 20), dealt(4, 10, 100, 200)]
        sold = entry(2, -10, -10, -30, 4, -10, -150, -450, 1, 480, 480, 480)
        self.check_last(before + [sold], [0, 3, 150, 110])


class RangeTest(LedgerCase):
    def test_first_and_last(self):
        for many in (MOST, -MOST):
            self.check_last(house() + [dealt(3, many, many, many)], [0, 1, 0, 0])
            self.check_last(house() + [dealt(3, many, many, many), lots(3)], [0, 1, many, many, many])

    def test_outside(self):
        for wrong in (MOST + 1, -MOST - 1, 10 ** 18, -10 ** 18):
            for place in (1, 2, 3, 5, 6, 7):
                numbers = [3, 1, 1, 1, 1, -1, -1, -1]
                numbers[place] = wrong
                self.check_refused(house(), entry(*numbers), -1)
                self.check_refused([], entry(*numbers), -1)

    def test_accounts(self):
        for wrong in (0, -1, 25, 10 ** 18):
            self.check_refused(house(), entry(wrong, 1, 1, 1, 1, -1, -1, -1), -1)
            self.check_refused(house(), entry(1, 1, 1, 1, wrong, -1, -1, -1), -1)

    def test_holds_beyond_an_amount(self):
        calls = house() + [dealt(3, MOST, MOST, MOST)] * 3
        self.check_last(calls + [balance(3)], [0, 3 * MOST, 3 * MOST, 3 * MOST, 0, 0])
        self.check_last(calls + [balance(1)], [0, -3 * MOST, -3 * MOST, -3 * MOST, 0, 0])


class RefusedTest(LedgerCase):
    def test_no_such_account(self):
        for wrong in (5, 24):
            self.check_refused(house(), entry(wrong, 1, 1, 1, 1, -1, -1, -1), -6)
            self.check_refused(house(), entry(1, 1, 1, 1, wrong, -1, -1, -1), -6)

    def test_no_account_before_all_others(self):
        self.check_refused(house(), entry(1, 0, 5, 5, 5, 1, 1, 1), -6)

    def test_how_many_is_0(self):
        self.check_refused(house(), entry(1, 0, 0, 0), -7)
        self.check_refused(house(), entry(2, 0, 0, 0), -7)
        self.check_refused(house(), entry(3, 0, 0, 0), -7)
        self.check_refused(house(), entry(3, 0, 5, 5, 1, -5, -5, -5), -7)

    def test_home_line_unlike(self):
        self.check_refused(house(), entry(1, 5, 4, 5, 3, -5, -5, -5), -7)
        self.check_refused(house(), entry(1, 5, 5, 4, 3, -4, -4, -4), -7)
        self.check_refused(house(), entry(3, 5, 5, 5, 1, -5, 5, -5), -7)
        self.check_refused(house(), entry(1, 5, 6, 5, 3, -5, -5, -5), -7)
        self.check_refused(house(), entry(1, 5, 5, 6, 3, -6, -6, -6), -7)

    def test_other_sign(self):
        self.check_refused(house(), entry(3, 5, -5, 5, 1, -5, -5, -5), -7)
        self.check_refused(house(), entry(3, 5, 5, -5, 1, 5, 5, 5), -7)
        self.check_refused(house(), entry(3, -5, 5, -5, 1, 5, 5, 5), -7)
        self.check_refused(house(), entry(3, -5, -5, 5, 1, -5, -5, -5), -7)
        self.check_refused(house(), entry(2, 5, 5, -5, 1, 5, 5, 5), -7)
        self.check_refused(house(), entry(3, 5, -5, 0), -7)
        self.check_refused(house(), entry(3, -5, 5, 0), -7)
        self.check_refused(house(), entry(2, -5, -5, 5, 1, -5, -5, -5), -7)

    def test_0_is_of_no_sign(self):
        for many in (5, -5):
            self.check_last(house() + [entry(3, many, 0, 0), lots(3)], [0, 1, many, 0, 0])
            self.check_last(house() + [entry(3, many, many, 0), lots(3)], [0, 1, many, many, 0])
            self.check_last(house() + [entry(2, many, many, 0), lots(2)], [0, 1, many, many, 0])
            self.check_last(house() + [dealt(3, many, 0, many), lots(3)], [0, 1, many, 0, many])

    def test_coin_unlike_there(self):
        self.check_refused(house(), entry(2, 5, 4, 5, 1, -5, -5, -5), -7)
        self.check_refused(house(), entry(2, 5, 0, 5, 1, -5, -5, -5), -7)
        self.check_refused(house(), entry(2, 5, 6, 5, 1, -5, -5, -5), -7)
        self.check_refused(house(), entry(2, -5, -4, -5, 1, 5, 5, 5), -7)
        self.check_last(house() + [dealt(2, 5, 5, 9)], [0, 1, 0, 0])
        self.check_last(house() + [dealt(3, 5, 4, 9)], [0, 1, 0, 0])

    def test_misfit_before_uneven(self):
        self.check_refused(house(), entry(1, 5, 5, 5, 3, 0, 5, 5), -7)

    def test_uneven(self):
        self.check_refused(house(), entry(1, 5, 5, 5), -8)
        self.check_refused(house(), entry(1, 5, 5, 5, 3, -5, -5, -4), -8)
        self.check_refused(house(), entry(1, 5, 5, 5, 3, -4, -5, -6), -8)

    def test_a_good_line_before_a_bad_one_is_not_done(self):
        before = house() + [dealt(3, 10, 10, 10)]
        self.check_refused(before, entry(3, -4, -8, -8, 1, 8, 8, 7), -7)
        self.check_refused(before, entry(3, -4, -8, -8, 1, 9, 9, 9), -8)
        self.check_refused(before, entry(3, -4, -8, -8, 9, 8, 8, 8), -6)

    def test_151st(self):
        full = house() + [CLOSE] * 149
        self.check_last(full + [dealt(3, 1, 1, 1)], [0, 150, 0, 0])
        full = full + [CLOSE]
        self.check_refused(full, dealt(3, 1, 1, 1), -4)
        self.check_refused(full, entry(1, 5, 5, 5), -8)
        self.check_refused(full, entry(1, 5, 5, 4), -7)
        self.check_refused(full, entry(9, 5, 5, 4), -6)
