from tests.ledger import CLOSE, GAINS, LAST_DAY, OPEN, REVALUE, LedgerCase, account, ask, balance, dealt, entry, house
from tests.ledger import lots, move, pass_days, rate, worth


class HomeTest(LedgerCase):
    def test_what_it_holds(self):
        before = [OPEN, account(1), account(1), account(1), entry(1, 7, 7, 7, 2, -7, -7, -7)]
        for day in (0, 1, LAST_DAY):
            self.check_each(before, [(worth(1, day), [0, 7, 7, 0, 0]), (worth(2, day), [0, -7, -7, 0, 0]),
                                     (worth(3, day), [0, 0, 0, 0, 0])])


class CoinTest(LedgerCase):
    def test_held(self):
        # 10 by 7/4 is 17 and a half: 18.
        self.check_last(house() + [dealt(2, 10, 10, 15), rate(2, 7, 4), worth(2, 0)], [0, 10, 18, 0, 3])

    def test_owed(self):
        self.check_last(house() + [dealt(2, -10, -10, -15), rate(2, 7, 4), worth(2, 0)], [0, -10, -18, 0, -3])

    def test_lots_as_one(self):
        calls = house() + [dealt(2, 1, 1, 1)] * 3 + [rate(2, 1, 2), worth(2, 0)]
        self.check_last(calls, [0, 3, 2, 0, -1])

    def test_big(self):
        most = 10 ** 9
        calls = house() + [dealt(2, most, most, most)] * 3 + [rate(2, 1000000, 1), worth(2, 0)]
        self.check_last(calls, [0, 3 * most, 3 * 10 ** 15, 0, 3 * 10 ** 15 - 3 * most])


class ThingTest(LedgerCase):
    def test_priced_at_home(self):
        self.check_last(house() + [dealt(3, 10, 100, 90), rate(3, 23, 2), worth(3, 0)], [0, 115, 115, 15, 10])
        # 3 by 5/2 is 7 and a half.
        self.check_last(house() + [dealt(3, -3, -10, -12), rate(3, 5, 2), worth(3, 0)], [0, -8, -8, 2, 2])

    def test_priced_in_a_coin(self):
        rates = [rate(4, 23, 2), rate(2, 5, 2)]
        # Worth 115 there, 288 at home; 15 by 5/2 is 38.
        self.check_last(house() + [dealt(4, 10, 100, 200)] + rates + [worth(4, 0)], [0, 115, 288, 38, 50])
        self.check_last(house() + [dealt(4, -10, -100, -200)] + rates + [worth(4, 0)], [0, -115, -288, -38, -50])

    def test_worth_there_is_rounded_first(self):
        # 1 by 1/2 is 1 there, and then 3 at home; 1 less 4, by 3, is the price's part.
        calls = house() + [dealt(4, 1, 4, 5), rate(4, 1, 2), rate(2, 3, 1), worth(4, 0)]
        self.check_last(calls, [0, 1, 3, -9, 7])

    def test_worth_nothing_there(self):
        before = house() + [dealt(4, 1, 10, 20), rate(4, 1, 3)]
        self.check_refused(before, worth(4, 0), -12)
        self.check_last(before + [rate(2, 5, 2), worth(4, 0)], [0, 0, 0, -25, 5])

    def test_cost_nothing(self):
        before = house() + [entry(4, 10, 0, 0), rate(4, 23, 2)]
        self.check_refused(before, worth(4, 0), -12)
        self.check_last(before + [rate(2, 5, 2), worth(4, 0)], [0, 115, 288, 288, 0])

    def test_below_another_account(self):
        before = house() + [account(4, 1), dealt(5, 10, 100, 200), rate(4, 23, 2)]
        self.check_refused(before, worth(5, 0), -12)
        self.check_last(before + [rate(2, 5, 2), worth(5, 0)], [0, 115, 288, 38, 50])

    def test_both_rates_are_needed(self):
        before = house() + [dealt(4, 10, 100, 200)]
        self.check_refused(before, worth(4, 0), -12)
        self.check_refused(before + [rate(4, 1, 1)], worth(4, 0), -12)
        self.check_refused(before + [rate(2, 1, 1)], worth(4, 0), -12)
        self.check_refused(before + [rate(2, 1, 1), rate(3, 1, 1)], worth(4, 0), -12)

    def test_each_rate_from_its_day_on(self):
        first = house() + [dealt(4, 10, 100, 200), pass_days(1), rate(4, 12, 1), pass_days(2), rate(2, 3, 1)]
        second = house() + [dealt(4, 10, 100, 200), pass_days(1), rate(2, 3, 1), pass_days(2), rate(4, 12, 1)]
        for before in (first, second):
            none = [(worth(4, day), [-12]) for day in (0, 1, 2)]
            self.check_each(before, none + [(worth(4, day), [0, 120, 360, 60, 100]) for day in (3, 4, LAST_DAY)])


class DayTest(LedgerCase):
    def test_before_on_and_after(self):
        before = house() + [dealt(2, 10, 10, 15), pass_days(2), rate(2, 2, 1), rate(2, 3, 1), pass_days(3),
                            rate(2, 5, 1), pass_days(5)]
        answered = [(worth(2, day), [-12]) for day in (0, 1)]
        answered += [(worth(2, day), [0, 10, 30, 0, 15]) for day in (2, 3, 4)]
        answered += [(worth(2, day), [0, 10, 50, 0, 35]) for day in (5, 9, 10, 11, LAST_DAY)]
        self.check_each(before, answered)

    def test_told_last_on_one_day(self):
        before = house() + [dealt(2, 10, 10, 15), rate(2, 2, 1)]
        self.check_last(before + [worth(2, 0)], [0, 10, 20, 0, 5])
        self.check_last(before + [rate(2, 9, 1), rate(2, 1, 1), worth(2, 0)], [0, 10, 10, 0, -5])

    def test_of_what_it_holds_now(self):
        before = house() + [rate(2, 2, 1), dealt(2, 10, 10, 15), pass_days(7), dealt(2, 1, 1, 1)]
        self.check_last(before + [worth(2, 0)], [0, 11, 22, 0, 6])

    def test_on_the_last_day(self):
        before = house() + [dealt(2, 10, 10, 15)] + [pass_days(1000)] * 3 + [pass_days(999), rate(2, 4, 1)]
        self.check_each(before, [(worth(2, 3998), [-12]), (worth(2, 3999), [0, 10, 40, 0, 25])])


class WithoutLotsTest(LedgerCase):
    def test_no_rate_is_needed(self):
        for number in (2, 3, 4):
            for day in (0, LAST_DAY):
                self.check_last(house() + [worth(number, day)], [0, 0, 0, 0, 0])

    def test_used_up(self):
        calls = house() + [dealt(4, 10, 100, 200), dealt(4, -10, -100, -300), worth(4, 0)]
        self.check_last(calls, [0, 0, 0, 0, 0])

    def test_moved_away(self):
        calls = house() + [account(2), dealt(2, 10, 10, 15), rate(2, 2, 1), move(2, 5, 10)]
        self.check_each(calls, [(worth(2, 0), [0, 0, 0, 0, 0]), (worth(5, 0), [0, 10, 20, 0, 5])])


class WorthTest(LedgerCase):
    def test_changes_nothing(self):
        before = house(4) + [dealt(4, 10, 100, 200), dealt(4, 1, 2, 3), rate(4, 23, 2), rate(2, 5, 2), CLOSE]
        self.check_changes_nothing(before, [worth(number, day) for number in (1, 4) for day in (0, 5)])
        told = ask(before + [worth(4, 0), balance(4), GAINS, lots(4)])
        self.assertEqual(told[-3:], [[0, 11, 102, 203, 0, 0], [0, 0, 0, 0, 0, 0, 0], [0, 2, 10, 100, 200, 1, 2, 3]])

    def test_not_what_was_told_last(self):
        before = house() + [dealt(2, 10, 10, 15), rate(2, 2, 1), REVALUE, rate(2, 3, 1)]
        self.check_each(before, [(worth(2, 0), [0, 10, 30, 0, 15]), (balance(2), [0, 10, 10, 15, 0, 5])])

    def test_no_such_account(self):
        self.check_refused([OPEN], worth(1, 0), -6)
        self.check_refused(house(), worth(5, 0), -6)
        self.check_refused(house() + [dealt(2, 1, 1, 1)], worth(24, LAST_DAY), -6)
