from tests.ledger import CLOSE, OPEN, REVALUE, LedgerCase, ask, balance, correct, dealt, entry, house, lots, move
from tests.ledger import pass_days


class CorrectTest(LedgerCase):
    def test_takes_back(self):
        calls = house() + [dealt(4, 10, 100, 200), correct(1)]
        self.check_last(calls, [0, 2, 0, 0])
        self.check_last(calls + [lots(4)], [0, 0])
        self.check_last(calls + [balance(1)], [0, 0, 0, 0, 0, 0])

    def test_deals_as_any_others(self):
        calls = house() + [dealt(3, 10, 100, 100), dealt(3, 10, 300, 300), correct(2)]
        # The first lot goes by rule 0, for what the second cost.
        self.check_last(calls, [0, 3, 200, 0])
        self.check_last(calls + [lots(3)], [0, 1, 10, 300, 300])

    def test_comes_back_as_a_new_lot(self):
        calls = house() + [dealt(3, 10, 100, 100), dealt(3, -4, -80, -80), correct(2)]
        self.check_last(calls, [0, 3, 0, 0])
        self.check_last(calls + [lots(3)], [0, 2, 6, 60, 60, 4, 80, 80])
        self.check_last(calls + [CLOSE], [0, 4, 40, 0])

    def test_lines_in_order(self):
        told = entry(3, 10, 10, 10, 3, -4, -12, -12, 1, 2, 2, 2)
        calls = house() + [told, correct(1)]
        # First ten go: six that are held, four that are owed; then four come against these.
        self.assertEqual(ask(calls)[-2:], [[0, 1, 8, 0], [0, 2, 0 - 8, 0]])
        self.check_last(calls + [lots(3)], [0, 0])

    def test_in_a_later_day(self):
        self.check_last(house() + [dealt(3, 10, 100, 100), pass_days(5), correct(1)], [0, 2, 0, 0])

    def test_range(self):
        for number in (0, -1, 151, 10 ** 18):
            self.check_refused(house() + [dealt(3, 10, 100, 100)], correct(number), -1)
            self.check_refused([], correct(number), -1)

    def test_no_such_entry(self):
        self.check_refused([OPEN], correct(1), -9)
        self.check_refused(house() + [dealt(3, 1, 1, 1)], correct(2), -9)
        self.check_refused(house() + [dealt(3, 1, 1, 1)], correct(150), -9)

    def test_corrected_already(self):
        self.check_refused(house() + [dealt(3, 1, 1, 1), correct(1)], correct(1), -10)
        self.check_refused(house() + [dealt(3, 1, 1, 1), CLOSE, correct(1), CLOSE], correct(1), -10)

    def test_another_may_still_be_corrected(self):
        calls = house() + [dealt(3, 1, 1, 1), dealt(3, 1, 1, 1), correct(1), correct(2)]
        self.check_last(calls, [0, 4, 0, 0])

    def test_not_of_kind_0(self):
        before = house() + [[3, 3, 0, 0], dealt(3, 2, 2, 2), correct(1), dealt(3, 2, 2, 2), move(3, 5, 1)]
        before = before + [[4, 3, 1, 1], REVALUE, CLOSE]
        self.assertEqual(ask(before)[-1], [0, 6, 0, 0])
        for number in (2, 4, 5, 6):
            self.check_refused(before, correct(number), -10)

    def test_151st(self):
        full = house() + [dealt(3, 1, 1, 1), dealt(3, 1, 1, 1)] + [CLOSE] * 147
        self.check_last(full + [correct(1)], [0, 150, 0, 0])
        self.check_refused(full + [correct(1)], correct(2), -4)
        self.check_refused(full + [correct(1)], correct(1), -10)
        self.check_refused(full + [correct(1)], correct(150), -10)
        self.check_refused(full + [CLOSE], correct(1), -4)
