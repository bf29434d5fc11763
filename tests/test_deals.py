from tests.ledger import LedgerCase, ask, balance, dealt, house, lots

# What is left, and what is gained, when 15 of these three lots go for 600.
THREE_LOTS = [dealt(3, 10, 100, 100), dealt(3, 10, 300, 300), dealt(3, 10, 200, 200)]
BY_RULE = {
    0: (350, [5, 150, 150, 10, 200, 200]),
    1: (250, [10, 100, 100, 5, 150, 150]),
    2: (200, [10, 100, 100, 5, 100, 100]),
    3: (400, [10, 300, 300, 5, 100, 100]),
    4: (300, [15, 300, 300]),
}


def turned(call):
    return call[:2] + [number if k % 4 == 0 else -number for k, number in enumerate(call[2:])]


class RuleTest(LedgerCase):
    def test_lots_above_0(self):
        for rule, (gain, left) in BY_RULE.items():
            calls = house(rule) + THREE_LOTS + [dealt(3, -15, -600, -600), lots(3)]
            told = ask(calls)
            self.assertEqual(told[-2], [0, 4, gain, 0], rule)
            self.assertEqual(told[-1], [0, len(left) // 3] + left, rule)

    def test_lots_below_0(self):
        for rule, (gain, left) in BY_RULE.items():
            calls = house(rule) + [turned(call) for call in THREE_LOTS] + [dealt(3, 15, 600, 600), lots(3)]
            told = ask(calls)
            self.assertEqual(told[-2], [0, 4, -gain, 0], rule)
            self.assertEqual(told[-1], [0, len(left) // 3] + [-number for number in left], rule)

    def test_whole_lots_alone(self):
        lefts = {0: [10, 300, 300, 10, 200, 200], 1: [10, 100, 100, 10, 300, 300], 2: [10, 100, 100, 10, 200, 200],
                 3: [10, 300, 300, 10, 200, 200], 4: [20, 400, 400]}
        for rule, left in lefts.items():
            calls = house(rule) + THREE_LOTS + [dealt(3, -10, 0, 0), lots(3)]
            self.check_last(calls, [0, len(left) // 3] + left)

    def test_like_costs_a_piece(self):
        for rule, other in ((2, 4), (3, 12)):
            before = [dealt(3, 10, 50, 50), dealt(3, 2, 10, 10), dealt(3, 2, other, other)]
            calls = house(rule) + before + [dealt(3, -2, 0, 0), lots(3)]
            self.check_last(calls, [0, 3, 8, 40, 40, 2, 10, 10, 2, other, other])

    def test_like_costs_below_0(self):
        for rule, other in ((2, -4), (3, -12)):
            before = [dealt(3, -10, -50, -50), dealt(3, -2, -10, -10), dealt(3, -2, other, other)]
            calls = house(rule) + before + [dealt(3, 2, 0, 0), lots(3)]
            self.check_last(calls, [0, 3, -8, -40, -40, -2, -10, -10, -2, other, other])

    def test_costs_that_hardly_differ(self):
        less = [999999999, 999999998, 999999998]
        more = [1000000000, 999999999, 999999999]
        for sign in (1, -1):
            for first, second in ((less, more), (more, less)):
                both = [dealt(3, *[sign * number for number in lot]) for lot in (first, second)]
                gone = dealt(3, -sign * 999999999, 0, 0)
                for rule, whole in ((2, more), (3, less)):
                    told = ask(house(rule) + both + [gone, lots(3)])[-1]
                    kept = less if whole == more else more
                    self.assertIn(sign * kept[0], told[2::3])
                    self.assertEqual(told[1], 1 if whole == less else 2)

    def test_costs_at_home_count_not_there(self):
        both = [dealt(4, 10, 10, 100), dealt(4, 10, 50, 20)]
        self.check_last(house(2) + both + [dealt(4, -10, 0, 0), lots(4)], [0, 1, 10, 50, 20])
        self.check_last(house(3) + both + [dealt(4, -10, 0, 0), lots(4)], [0, 1, 10, 10, 100])

    def test_costs_a_piece_not_in_all(self):
        both = [dealt(3, 100, 200, 200), dealt(3, 1, 3, 3)]
        self.check_last(house(2) + both + [dealt(3, -1, 0, 0), lots(3)], [0, 1, 100, 200, 200])
        self.check_last(house(3) + both + [dealt(3, -1, 0, 0), lots(3)], [0, 2, 99, 198, 198, 1, 3, 3])

    def test_lots_stay_apart_until_used(self):
        calls = house(4) + THREE_LOTS
        self.check_last(calls + [lots(3)], [0, 3, 10, 100, 100, 10, 300, 300, 10, 200, 200])
        calls = calls + [dealt(3, -1, 0, 0), dealt(3, 2, 7, 7)]
        self.check_last(calls + [lots(3)], [0, 2, 29, 580, 580, 2, 7, 7])
        self.check_last(calls + [dealt(3, -1, 0, 0), lots(3)], [0, 1, 30, 568, 568])


class GainTest(LedgerCase):
    def test_price_and_rate(self):
        before = house() + [dealt(4, 10, 100, 200)]
        self.check_last(before + [dealt(4, -10, -150, -450)], [0, 2, 150, 100])
        self.check_last(before + [dealt(4, -10, -100, -450)], [0, 2, 0, 250])
        self.check_last(before + [dealt(4, -10, -50, -100)], [0, 2, -100, 0])

    def test_price_is_rounded(self):
        before = house() + [dealt(4, 1, 2, 5)]
        self.check_last(before + [dealt(4, -1, -4, -3)], [0, 2, 2, -4])
        self.check_last(before + [dealt(4, -1, -7, -3)], [0, 2, 2, -4])

    def test_brought_nothing_there(self):
        before = house() + [dealt(4, 10, 100, 200)]
        self.check_last(before + [dealt(4, -10, 0, -30)], [0, 2, -170, 0])
        self.check_last(before + [dealt(4, -10, 0, 0)], [0, 2, -200, 0])

    def test_brought_nothing_at_home(self):
        self.check_last(house() + [dealt(4, 10, 100, 200), dealt(4, -10, -70, 0)], [0, 2, 0, -200])

    def test_coin_gains_by_its_rate_alone(self):
        self.check_last(house() + [dealt(2, 100, 100, 200), dealt(2, -100, -100, -301)], [0, 2, 0, 101])

    def test_owed(self):
        self.check_last(house() + [dealt(2, -100, -100, -200), dealt(2, 100, 100, 150)], [0, 2, 0, 50])
        before = house() + [dealt(4, -10, -100, -200)]
        self.check_last(before + [dealt(4, 10, 150, 450)], [0, 2, -150, -100])
        self.check_last(before + [dealt(4, 10, 0, 30)], [0, 2, 170, 0])

    def test_each_lot_gains_by_itself(self):
        calls = house() + [dealt(4, 1, 1, 10), dealt(4, 1, 2, 20), dealt(4, 1, 3, 30), dealt(4, -3, -10, -20)]
        # There 3, 4, 3 were brought, at home 7, 6, 7: so 2 by 7/3, 2 by 6/4, 0 by 7/3.
        self.check_last(calls, [0, 4, 5 + 3 + 0, -40 - 8])

    def test_no_gain_on_coming(self):
        for sign in (1, -1):
            calls = house() + [dealt(4, sign, sign, sign), dealt(4, sign * 2, sign * 9, sign * 90)]
            self.check_last(calls, [0, 2, 0, 0])
            self.check_last(calls + [lots(4)], [0, 2, sign, sign, sign, sign * 2, sign * 9, sign * 90])


class HeldTest(LedgerCase):
    def test_just_all(self):
        calls = house() + [dealt(4, 10, 100, 200), dealt(4, -10, -100, -300)]
        self.check_last(calls, [0, 2, 0, 100])
        self.check_last(calls + [lots(4)], [0, 0])
        self.check_last(calls + [balance(4)], [0, 0, 0, 0, 0, 0])

    def test_less(self):
        calls = house() + [dealt(4, 10, 100, 200), dealt(4, -9, -90, -270)]
        self.check_last(calls, [0, 2, 0, 90])
        self.check_last(calls + [lots(4)], [0, 1, 1, 10, 20])

    def test_more(self):
        for rule in range(5):
            calls = house(rule) + [dealt(4, 4, 40, 80), dealt(4, 6, 60, 120), dealt(4, -15, -150, -450)]
            self.check_last(calls, [0, 3, 0, 100])
            self.check_last(calls + [lots(4)], [0, 1, -5, -50, -150])

    def test_more_owed(self):
        calls = house() + [dealt(4, -10, -100, -200), dealt(4, 15, 150, 450)]
        self.check_last(calls, [0, 2, 0, -100])
        self.check_last(calls + [lots(4)], [0, 1, 5, 50, 150])

    def test_more_is_parted_by_rounding(self):
        calls = house() + [dealt(4, 1, 1, 1), dealt(4, -2, -3, -5)]
        # To the one that is used belong 2 of 3 there and 3 of 5 at home.
        self.check_last(calls, [0, 2, 2, 0])
        self.check_last(calls + [lots(4)], [0, 1, -1, -1, -2])

    def test_cut_by_halves(self):
        for sign in (1, -1):
            calls = house() + [dealt(4, sign * 2, sign * 3, sign * 5), dealt(4, -sign, 0, 0)]
            self.check_last(calls, [0, 2, -sign * 3, 0])
            self.check_last(calls + [lots(4)], [0, 1, sign, sign, sign * 2])

    def test_lots_that_cost_nothing(self):
        calls = house() + [dealt(4, 5, 0, 0), dealt(4, 5, 9, 0), dealt(4, -2, -6, -8)]
        self.check_last(calls, [0, 3, 8, 0])
        self.check_last(calls + [lots(4)], [0, 2, 3, 0, 0, 5, 9, 0])

    def test_cut_lot_keeps_its_place(self):
        calls = house(2) + [dealt(3, 4, 4, 4), dealt(3, 4, 40, 40), dealt(3, 4, 8, 8), dealt(3, -1, 0, 0), lots(3)]
        self.check_last(calls, [0, 3, 4, 4, 4, 3, 30, 30, 4, 8, 8])
