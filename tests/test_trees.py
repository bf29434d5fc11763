from tests.ledger import CLOSE, OPEN, REVALUE, UNITS, LedgerCase, account, account_told, dealt, entry, house, pass_days
from tests.ledger import rate, tree

# 1 is alone; 2 has 3 and 4; 3 has 5; 5 has 7; 4 has 6; 8 is alone.
BRANCHES = UNITS + [account(1), account(1), account(2, 2), account(3, 2), account(4, 3), account(1, 4), account(2, 5),
                    account(2)]
HELD = [dealt(3, 10, 10, 15), dealt(4, 10, 100, 90), dealt(5, 10, 100, 200), dealt(7, -1, -1, -4), dealt(8, 1, 1, 1000),
        entry(2, 30, 30, 30, 6, -50, -50, -50, 1, 20, 20, 20)]
# By rates: 3 is worth 20, 4 is 110, 5 is 110 there and 220, 7 is -2, 8 is 2.
RATES = [rate(2, 2, 1), rate(3, 11, 1), rate(4, 11, 1)]


class TreeTest(LedgerCase):
    def test_alone(self):
        self.check_each(house(), [(tree(number), [0, 1, 0, 0]) for number in (1, 2, 3, 4)])

    def test_how_many(self):
        wanted = {1: 1, 2: 6, 3: 3, 4: 2, 5: 2, 6: 1, 7: 1, 8: 1}
        self.check_each(BRANCHES, [(tree(number), [0, many, 0, 0]) for number, many in wanted.items()])

    def test_costs_at_home(self):
        wanted = {1: (1, -15 - 90 - 200 + 4 - 1000 + 20), 2: (6, 30 + 15 + 90 + 200 - 50 - 4), 3: (3, 15 + 200 - 4),
                  4: (2, 90 - 50), 5: (2, 200 - 4), 6: (1, -50), 7: (1, -4), 8: (1, 1000)}
        answered = [(tree(number), [0, many, cost, 0]) for number, (many, cost) in wanted.items()]
        self.check_each(BRANCHES + HELD, answered)
        self.check_each(BRANCHES + HELD + RATES, answered)

    def test_gains_not_done(self):
        wanted = {1: 0, 2: 5 + 20 + 20 + 2, 3: 5 + 20 + 2, 4: 20, 5: 20 + 2, 6: 0, 7: 2, 8: -998}
        before = BRANCHES + HELD + RATES + [REVALUE]
        many = {1: 1, 2: 6, 3: 3, 4: 2, 5: 2, 6: 1, 7: 1, 8: 1}
        cost = {1: -1281, 2: 281, 3: 211, 4: 40, 5: 196, 6: -50, 7: -4, 8: 1000}
        answered = [(tree(number), [0, many[number], cost[number], gain]) for number, gain in wanted.items()]
        self.check_each(before, answered)
        # As told last, whatever the rates since.
        self.check_each(before + [pass_days(3), rate(2, 9, 1), CLOSE], answered)

    def test_price_and_rate_added(self):
        before = house() + [dealt(4, 10, 100, 200), rate(4, 23, 2), rate(2, 5, 2), REVALUE]
        self.check_last(before + [tree(4)], [0, 1, 200, 38 + 50])

    def test_told_stays_when_lots_are_gone(self):
        before = house() + [dealt(2, 10, 10, 15), rate(2, 2, 1), REVALUE, dealt(2, -10, -10, -20)]
        self.check_last(before + [tree(2)], [0, 1, 0, 5])
        self.check_last(before + [REVALUE, tree(2)], [0, 1, 0, 0])

    def test_24_steps_down(self):
        chain = [OPEN] + [account(1, number) for number in range(24)]
        before = chain + [entry(1, 5, 5, 5, 24, 3, 3, 3, 12, -8, -8, -8)]
        self.check_each(before, [(tree(number), [0, 25 - number, {1: 0}.get(number, -5 if number < 13 else 3), 0])
                                 for number in range(1, 25)])

    def test_24_side_by_side(self):
        before = [OPEN, account(1)] + [account(1, 1)] * 23
        self.check_each(before, [(tree(1), [0, 24, 0, 0]), (tree(2), [0, 1, 0, 0]), (tree(24), [0, 1, 0, 0])])

    def test_changes_nothing(self):
        self.check_changes_nothing(BRANCHES + HELD + RATES, [tree(number) for number in range(1, 9)])

    def test_no_such_account(self):
        self.check_refused([OPEN], tree(1), -6)
        self.check_refused(house(), tree(5), -6)
        self.check_refused(house(), tree(24), -6)


class AccountToldTest(LedgerCase):
    def test_as_made(self):
        before = UNITS + [account(1), account(4, 1, 3), account(2, 2, 4), account(3, 0, 1), account(1, 2, 2)]
        self.check_each(before, [(account_told(1), [0, 1, 0, 0]), (account_told(2), [0, 4, 1, 3]),
                                 (account_told(3), [0, 2, 2, 4]), (account_told(4), [0, 3, 0, 1]),
                                 (account_told(5), [0, 1, 2, 2])])

    def test_24th(self):
        self.check_last([OPEN] + [account(1)] * 23 + [account(1, 23, 4), account_told(24)], [0, 1, 23, 4])

    def test_not_of_a_refused_one(self):
        self.check_refused([OPEN, account(2), account(1, 1), account(1, 0, 5)], account_told(1), -6)

    def test_changes_nothing(self):
        self.check_changes_nothing(BRANCHES + HELD, [account_told(number) for number in range(1, 9)])

    def test_no_such_account(self):
        self.check_refused([OPEN], account_told(1), -6)
        self.check_refused(house(), account_told(5), -6)
        self.check_refused(house(), account_told(24), -6)
