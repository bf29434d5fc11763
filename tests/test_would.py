from tests.ledger import CLOSE, OPEN, LedgerCase, ask, dealt, entry_info, house, lots, would

MOST = 1000000000
THREE_LOTS = [dealt(3, 10, 100, 100), dealt(3, 10, 300, 300), dealt(3, 10, 200, 200)]


class GainTest(LedgerCase):
    def test_home_gains_nothing(self):
        before = house() + [dealt(3, 10, 100, 100)]
        self.check_each(before, [(would(1, many, many, many), [0, 0, 0]) for many in (5, -5, 200, MOST, -MOST)])

    def test_what_comes_gains_nothing(self):
        self.check_each(house(), [(would(4, 10, 100, 200), [0, 0, 0]), (would(4, -10, -100, -200), [0, 0, 0])])
        held = house() + [dealt(4, 10, 100, 200), dealt(2, -10, -10, -20)]
        self.check_each(held, [(would(4, 1, 1, 1), [0, 0, 0]), (would(2, -1, -1, -50), [0, 0, 0])])

    def test_all(self):
        before = house() + [dealt(4, 10, 100, 200)]
        self.check_each(before, [(would(4, -10, -150, -450), [0, 150, 100]), (would(4, -10, -50, -100), [0, -100, 0]),
                                 (would(4, -10, 0, -30), [0, -170, 0]), (would(4, -10, -70, 0), [0, 0, -200])])

    def test_a_part(self):
        before = house() + [dealt(4, 10, 100, 200)]
        self.check_last(before + [would(4, -5, -75, -225)], [0, 75, 50])

    def test_more(self):
        before = house() + [dealt(4, 10, 100, 200)]
        # Two of three parts are of what is used: 150 there, 450 at home.
        self.check_last(before + [would(4, -15, -225, -675)], [0, 150, 100])

    def test_owed(self):
        before = house() + [dealt(2, -100, -100, -200)]
        self.check_each(before, [(would(2, 100, 100, 150), [0, 0, 50]), (would(2, 50, 50, 75), [0, 0, 25]),
                                 (would(2, 200, 200, 300), [0, 0, 50])])

    def test_by_each_rule(self):
        for rule, gain in enumerate([350, 250, 200, 400, 300]):
            self.check_last(house(rule) + THREE_LOTS + [would(3, -15, -600, -600)], [0, gain, 0])

    def test_as_the_line_then_gains(self):
        for rule in range(5):
            for numbers in ((-7, -33, -90), (-30, -9, -1), (-41, -1000, -777), (3, 3, 3)):
                calls = house(rule) + THREE_LOTS + [would(3, *numbers), dealt(3, *numbers), entry_info(4)]
                told = ask(calls)
                self.assertEqual(told[-3], [0] + told[-1][9:11])
                self.assertEqual(told[-3], [0] + told[-2][2:])


class WouldTest(LedgerCase):
    def test_changes_nothing(self):
        for rule in range(5):
            before = house(rule) + THREE_LOTS
            asked = [would(3, -15, -600, -600), would(3, -30, 0, 0), would(3, -50, -1, -1), would(3, 5, 5, 5),
                     would(1, 7, 7, 7)]
            self.check_changes_nothing(before, asked)
            self.check_last(before + asked + [lots(3)], [0, 3, 10, 100, 100, 10, 300, 300, 10, 200, 200])
            self.check_last(before + asked + [asked[0]], ask(before + [asked[0]])[-1])

    def test_need_not_be_even(self):
        self.check_last([OPEN, [3, 1, 0, 0], would(1, 5, 5, 5)], [0, 0, 0])

    def test_when_no_entry_is_left(self):
        before = house() + [dealt(4, 10, 100, 200)] + [CLOSE] * 149
        self.check_last(before + [would(4, -10, -150, -450)], [0, 150, 100])

    def test_misfit(self):
        before = house() + THREE_LOTS
        for number in (1, 2, 3, 4):
            self.check_refused(before, would(number, 0, 0, 0), -7)
        for wrong in ((1, 5, 4, 5), (1, 5, 5, 4), (1, -5, 5, -5), (2, 5, 4, 5), (2, 5, 0, 5), (2, 5, 5, -5),
                      (2, -5, -5, 5), (3, 5, -5, 5), (3, 5, 5, -5), (3, -5, 5, -5), (4, -5, -5, 5), (3, 0, 5, 5)):
            self.check_refused(before, would(*wrong), -7)

    def test_0_is_of_no_sign(self):
        self.check_each(house(), [(would(number, many, there, 0), [0, 0, 0]) for number, many, there in (
            (2, 5, 5), (2, -5, -5), (3, 5, 0), (3, -5, 0), (4, 5, 9), (4, -5, -9))])

    def test_no_such_account(self):
        self.check_refused([OPEN], would(1, 1, 1, 1), -6)
        for number in (5, 24):
            self.check_refused(house(), would(number, 1, 1, 1), -6)
            self.check_refused(house(), would(number, 0, 1, -1), -6)
