from tests.ledger import COIN, LAST_DAY, OPEN, UNITS, LedgerCase, pass_days, rate, rate_on, thing, unit_told


class RateOnTest(LedgerCase):
    def test_before_on_and_after(self):
        before = UNITS + [pass_days(2), rate(2, 4, 6), pass_days(3), rate(2, 5, 1), pass_days(2)]
        answered = [(rate_on(2, day), [-12]) for day in (0, 1)]
        answered += [(rate_on(2, day), [0, 4, 6, 2]) for day in (2, 3, 4)]
        answered += [(rate_on(2, day), [0, 5, 1, 5]) for day in (5, 6, 7, 8, LAST_DAY)]
        self.check_each(before, answered)

    def test_told_last_on_one_day(self):
        before = UNITS + [pass_days(1), rate(2, 9, 1), rate(2, 7, 1), rate(3, 1, 1), rate(2, 8, 3), rate(4, 6, 5)]
        self.check_each(before, [(rate_on(2, 1), [0, 8, 3, 1]), (rate_on(3, 1), [0, 1, 1, 1]),
                                 (rate_on(4, LAST_DAY), [0, 6, 5, 1]), (rate_on(2, 0), [-12])])

    def test_as_it_was_told(self):
        before = UNITS + [rate(2, 1000000, 1000000), rate(3, 1, 1000000), rate(4, 1000000, 1)]
        self.check_each(before, [(rate_on(2, 0), [0, 1000000, 1000000, 0]), (rate_on(3, 0), [0, 1, 1000000, 0]),
                                 (rate_on(4, 0), [0, 1000000, 1, 0])])

    def test_on_the_last_day(self):
        before = UNITS + [pass_days(1000)] * 3 + [pass_days(999), rate(4, 3, 2)]
        self.check_each(before, [(rate_on(4, 3998), [-12]), (rate_on(4, 3999), [0, 3, 2, 3999])])

    def test_none(self):
        for unit in (2, 3, 4):
            self.check_refused(UNITS, rate_on(unit, LAST_DAY), -12)
        self.check_refused(UNITS + [rate(2, 1, 1)], rate_on(4, 0), -12)

    def test_refused_rates_are_none(self):
        self.check_refused(UNITS + [rate(2, 0, 1), rate(2, 1, 1000001)], rate_on(2, 0), -12)

    def test_no_such_unit(self):
        for unit in (1, 5, 10):
            self.check_refused(UNITS + [rate(2, 1, 1)], rate_on(unit, 0), -5)
        self.check_refused([OPEN], rate_on(1, LAST_DAY), -5)
        self.check_refused([OPEN], rate_on(2, LAST_DAY), -5)

    def test_changes_nothing(self):
        self.check_changes_nothing(UNITS + [rate(2, 1, 1)], [rate_on(2, 0), rate_on(3, 0)])


class UnitTest(LedgerCase):
    def test_each_kind(self):
        self.check_each(UNITS, [(unit_told(1), [0, 0, 1]), (unit_told(2), [0, 0, 2]), (unit_told(3), [0, 1, 1]),
                                (unit_told(4), [0, 1, 2])])

    def test_10th(self):
        before = [OPEN] + [COIN] * 8 + [thing(9)]
        self.check_each(before, [(unit_told(9), [0, 0, 9]), (unit_told(10), [0, 1, 9])])

    def test_no_such_unit(self):
        self.check_refused([OPEN], unit_told(2), -5)
        self.check_refused(UNITS, unit_told(5), -5)
        self.check_refused(UNITS + [thing(3), thing(9)], unit_told(5), -5)
        self.check_refused(UNITS, unit_told(10), -5)

    def test_changes_nothing(self):
        self.check_changes_nothing(UNITS, [unit_told(unit) for unit in range(1, 6)])
