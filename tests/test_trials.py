from tests.ledger import CLOSE, COIN, GAINS, OPEN, REVALUE, STATE, TRIAL, UNITS, LedgerCase, account, correct, dealt
from tests.ledger import entry, house, move, pass_days, rate, thing

# Two accounts of each unit but of unit 3: 1 and 2 at home, 3 and 4 in the coin, 5 and 6 in the coin's thing.
PAIRS = UNITS + [account(1), account(1), account(2), account(2), account(4), account(4, 0, 4)]


class TrialTest(LedgerCase):
    def test_new(self):
        self.check_last([OPEN, TRIAL], [0, 0, 0, 0, 0, 0])

    def test_units_without_accounts(self):
        self.check_last(UNITS + [TRIAL], [0] + [0, 0] * 4 + [0, 0, 0])
        self.check_last([OPEN] + [COIN] * 9 + [TRIAL], [0] + [0, 0] * 10 + [0, 0, 0])
        calls = [OPEN] + [COIN] * 8 + [thing(9), account(10), entry(1, 5, 5, 0), TRIAL]
        self.check_last(calls, [0] + [0, 0] * 9 + [5, -5] + [0, 0, 0])

    def test_all_accounts_of_a_unit_together(self):
        told = entry(1, 100, 100, 100, 2, -25, -25, -25, 3, 10, 10, 20, 4, 3, 3, 5, 5, 7, 70, 150, 6, -2, -100, -250)
        self.check_last(PAIRS + [told, TRIAL], [0, 75, -75, 13, -13, 0, 0, 5, -5, 0, 0, 0])

    def test_cost_is_what_was_gained(self):
        before = house() + [dealt(4, 10, 100, 200), dealt(4, -5, -75, -225)]
        # Gained 75 by the price and 50 by the rate: 25 at home, and lots for 100.
        self.check_last(before + [TRIAL], [0, 25, -25, 0, 0, 0, 0, 5, -5, 125, 75, 50])
        self.check_last(before + [CLOSE, TRIAL], [0, 25, -25, 0, 0, 0, 0, 5, -5, 125, 75, 50])

    def test_corrections_count(self):
        before = house() + [dealt(3, 10, 100, 100), dealt(3, 10, 300, 300), correct(2)]
        self.check_last(before + [TRIAL], [0, -100, 100, 0, 0, 10, -10, 0, 0, 200, 200, 0])
        self.check_last(before + [correct(1), TRIAL], [0, 0, 0, 0, 0, 0, 0, 0, 0, 0, 0, 0])

    def test_moves_cancel(self):
        before = PAIRS + [dealt(3, 10, 10, 20), dealt(5, 7, 70, 150)]
        wanted = [0, -170, 170, 10, -10, 0, 0, 7, -7, 0, 0, 0]
        self.check_last(before + [TRIAL], wanted)
        self.check_last(before + [move(3, 4, 4), move(5, 6, 7), TRIAL], wanted)

    def test_gains_not_done_are_left_out(self):
        before = house() + [dealt(2, 10, 10, 15), rate(2, 2, 1), REVALUE]
        self.check_last(before + [TRIAL], [0, -15, 15, 10, -10, 0, 0, 0, 0, 0, 0, 0])

    def test_owed(self):
        before = house() + [dealt(2, -100, -100, -200), dealt(2, 150, 150, 225)]
        self.check_last(before + [TRIAL], [0, -25, 25, 50, -50, 0, 0, 0, 0, 50, 0, 50])

    def test_changes_nothing(self):
        self.check_changes_nothing(house(4) + [dealt(4, 10, 100, 200), dealt(4, 1, 1, 1)], [TRIAL, GAINS, STATE])


class GainsTest(LedgerCase):
    def test_new(self):
        self.check_last([OPEN, GAINS], [0, 0, 0, 0, 0, 0, 0])
        self.check_last(house() + [dealt(4, 10, 100, 200), GAINS], [0, 0, 0, 0, 0, 0, 0])

    def test_done(self):
        before = house() + [dealt(4, 10, 100, 200), dealt(4, -5, -75, -225)]
        self.check_last(before + [GAINS], [0, 75, 50, 0, 0, 0, 0])
        self.check_last(before + [dealt(4, -5, -50, -90), GAINS], [0, 75, 40, 0, 0, 0, 0])

    def test_closed_so_far(self):
        before = house() + [dealt(4, 10, 100, 200), dealt(4, -5, -75, -225), CLOSE]
        self.check_last(before + [GAINS], [0, 75, 50, 75, 50, 0, 0])
        self.check_last(before + [CLOSE, GAINS], [0, 75, 50, 75, 50, 0, 0])
        before = before + [dealt(4, -5, -50, -90)]
        self.check_last(before + [GAINS], [0, 75, 40, 75, 50, 0, 0])
        self.check_last(before + [CLOSE, GAINS], [0, 75, 40, 75, 40, 0, 0])

    def test_not_done_of_all_accounts(self):
        before = house() + [dealt(2, 10, 10, 15), dealt(3, 10, 100, 90), dealt(4, 10, 100, 200),
                            rate(2, 2, 1), rate(3, 11, 1), rate(4, 12, 1)]
        self.check_last(before + [GAINS], [0, 0, 0, 0, 0, 0, 0])
        # By the price 10 and 20 by 2, by the rate 5 and 10.
        self.check_last(before + [REVALUE, GAINS], [0, 0, 0, 0, 0, 50, 15])
        self.check_last(before + [REVALUE, rate(2, 3, 1), GAINS], [0, 0, 0, 0, 0, 50, 15])
        self.check_last(before + [REVALUE, rate(2, 3, 1), REVALUE, GAINS], [0, 0, 0, 0, 0, 10 + 60, 15 + 10 + 100])

    def test_told_stays_when_lots_are_gone(self):
        before = house() + [dealt(2, 10, 10, 15), rate(2, 2, 1), REVALUE, dealt(2, -10, -10, -30)]
        self.check_last(before + [GAINS], [0, 0, 15, 0, 0, 0, 5])
        self.check_last(before + [CLOSE, REVALUE, GAINS], [0, 0, 15, 0, 15, 0, 0])

    def test_corrections_and_moves(self):
        before = PAIRS + [dealt(5, 10, 100, 200), dealt(5, -5, -75, -225), correct(2)]
        self.check_last(before + [GAINS], [0, 75, 50, 0, 0, 0, 0])
        self.check_last(before + [move(5, 6, 10), GAINS], [0, 75, 50, 0, 0, 0, 0])


class StateTest(LedgerCase):
    def test_new(self):
        self.check_last([OPEN, STATE], [0, 0, 1, 0, 0, 0])

    def test_counts(self):
        before = house() + [rate(2, 1, 1), rate(2, 1, 1), pass_days(3), rate(2, 3, 2), dealt(2, 1, 1, 1), CLOSE]
        self.check_last(before + [STATE], [0, 3, 4, 3, 4, 2])
        self.check_last(before + [REVALUE, correct(1), pass_days(1000), STATE], [0, 1003, 4, 3, 4, 4])

    def test_refused_ones_do_not_count(self):
        wrong = [OPEN, thing(4), thing(9), account(9), account(1, 9), rate(1, 1, 1), rate(5, 1, 1), rate(2, 0, 1),
                 entry(1, 1, 1, 1), correct(1), move(1, 2, 3), pass_days(1001)]
        self.check_last(house() + wrong + [STATE], [0, 0, 4, 0, 4, 0])

    def test_full(self):
        before = [OPEN] + [COIN] * 10 + [account(1)] * 25 + [CLOSE] * 151 + [pass_days(1000)] * 4 + [pass_days(999)] * 2
        self.check_last(before + [rate(2, 1, 1)] * 160 + [STATE], [0, 3999, 10, 160, 24, 150])
