from tests.ledger import CLOSE, LAST_DAY, OPEN, REVALUE, UNITS, LedgerCase, account, ask, correct, dealt, entry
from tests.ledger import entry_info, house, known, known_on, move, pass_days, rate

# Accounts 1 at home, 2 and 3 in the coin's thing. Days 0, 0, 3, 3, 5, 5, 5.
LEDGER = UNITS + [account(1), account(4), account(4), rate(2, 2, 1), rate(4, 10, 1),
                  dealt(2, 10, 100, 200), dealt(3, 2, 20, 30), pass_days(3), dealt(2, -4, -60, -180), move(2, 3, 2),
                  pass_days(2), correct(3), REVALUE, CLOSE]


class EntryInfoTest(LedgerCase):
    def test_each_kind(self):
        self.check_each(LEDGER, [
            (entry_info(1), [0, 0, 0, 0, 2, 2, 10, 100, 200, 0, 0, 1, -200, -200, -200, 0, 0]),
            (entry_info(2), [0, 0, 0, 0, 2, 3, 2, 20, 30, 0, 0, 1, -30, -30, -30, 0, 0]),
            (entry_info(3), [0, 3, 0, 0, 2, 2, -4, -60, -180, 60, 40, 1, 180, 180, 180, 0, 0]),
            (entry_info(4), [0, 3, 2, 0, 2, 2, -2, -20, -40, 0, 0, 3, 2, 20, 40, 0, 0]),
            (entry_info(5), [0, 5, 1, 3, 2, 2, 4, 60, 180, 0, 0, 1, -180, -180, -180, 0, 0]),
            (entry_info(6), [0, 5, 3, 0, 0]),
            (entry_info(7), [0, 5, 4, 0, 0]),
            (entry_info(8), [-9]),
        ])

    def test_corrected_one_stays_as_it_was(self):
        before = UNITS + [account(1), account(4), dealt(2, 10, 100, 200)]
        told = ask(before + [entry_info(1), pass_days(1), correct(1), entry_info(1)])
        self.assertEqual(told[-1], told[-4])

    def test_each_line_has_its_gain(self):
        before = house() + [dealt(2, 10, 10, 20), dealt(4, 10, 100, 200)]
        sold = entry(2, -10, -10, -30, 4, -10, -150, -450, 1, 480, 480, 480)
        self.check_last(before + [sold, entry_info(3)], [
            0, 0, 0, 0, 3, 2, -10, -10, -30, 0, 10, 4, -10, -150, -450, 150, 100, 1, 480, 480, 480, 0, 0])

    def test_correction_has_a_gain(self):
        calls = house() + [dealt(3, 10, 100, 100), dealt(3, 10, 300, 300), correct(2), entry_info(3)]
        self.check_last(calls, [0, 0, 1, 2, 2, 3, -10, -300, -300, 200, 0, 1, 300, 300, 300, 0, 0])

    def test_one_to_six_lines(self):
        for many in range(1, 7):
            calls = house() + [entry(*([3, 1, 0, 0] * many)), entry_info(1)]
            self.check_last(calls, [0, 0, 0, 0, many] + [3, 1, 0, 0, 0, 0] * many)

    def test_move_of_what_is_owed(self):
        before = UNITS + [account(1), account(2), account(2), dealt(2, -10, -10, -25), move(2, 3, -3)]
        # 3 of 10, of 25, are 7 and a half: 8.
        self.check_last(before + [entry_info(2)], [0, 0, 2, 0, 2, 2, 3, 3, 8, 0, 0, 3, -3, -3, -8, 0, 0])

    def test_on_the_last_day(self):
        before = [OPEN] + [pass_days(1000)] * 3 + [pass_days(999), CLOSE]
        self.check_last(before + [entry_info(1)], [0, 3999, 4, 0, 0])

    def test_150th(self):
        before = house() + [CLOSE] * 149 + [dealt(3, 1, 1, 1)]
        self.check_last(before + [entry_info(150)], [0, 0, 0, 0, 2, 3, 1, 1, 1, 0, 0, 1, -1, -1, -1, 0, 0])

    def test_no_such_entry(self):
        self.check_refused([OPEN], entry_info(1), -9)
        self.check_refused(LEDGER, entry_info(8), -9)
        self.check_refused(LEDGER, entry_info(150), -9)

    def test_refused_entries_are_none(self):
        self.check_refused(house() + [entry(1, 1, 1, 1), entry(2, 0, 0, 0)], entry_info(1), -9)

    def test_changes_nothing(self):
        self.check_changes_nothing(LEDGER, [entry_info(number) for number in range(1, 9)])


class KnownTest(LedgerCase):
    def test_by_so_many_entries(self):
        wanted = {
            1: [[0, 0], [-200, -200], [-230, -230], [-50, -50], [-50, -50], [-230, -230], [-230, -230], [-230, -230]],
            2: [[0, 0], [10, 200], [10, 200], [6, 20], [4, -20], [8, 160], [8, 160], [8, 160]],
            3: [[0, 0], [0, 0], [2, 30], [2, 30], [4, 70], [4, 70], [4, 70], [4, 70]],
        }
        for number, sums in wanted.items():
            self.check_each(LEDGER, [(known(number, many), [0] + both) for many, both in enumerate(sums)])
            self.check_each(LEDGER, [(known(number, many), [0] + sums[-1]) for many in (7, 8, 149, 150)])

    def test_no_entries(self):
        self.check_each(house(), [(known(1, many), [0, 0, 0]) for many in (0, 1, 150)])

    def test_several_lines_of_one_account(self):
        before = house() + [entry(3, 10, 10, 10, 3, -4, -12, -12, 1, 2, 2, 2, 3, 1, 0, 0)]
        self.check_each(before, [(known(3, 1), [0, 7, -2]), (known(1, 1), [0, 2, 2]), (known(2, 1), [0, 0, 0])])

    def test_never_changes(self):
        first = LEDGER + [known(number, many) for number in (1, 2, 3) for many in range(8)]
        later = LEDGER + [correct(1), dealt(2, 5, 5, 5), move(2, 3, 1), pass_days(9), correct(2)]
        later = later + [known(number, many) for number in (1, 2, 3) for many in range(8)]
        self.assertEqual(ask(later)[-24:], ask(first)[-24:])

    def test_150(self):
        before = house() + [CLOSE] * 149 + [dealt(3, 1, 1, 1)]
        self.check_each(before, [(known(3, 149), [0, 0, 0]), (known(3, 150), [0, 1, 1])])

    def test_no_such_account(self):
        self.check_refused([OPEN], known(1, 0), -6)
        self.check_refused(LEDGER, known(4, 3), -6)
        self.check_refused(LEDGER, known(24, 150), -6)

    def test_changes_nothing(self):
        self.check_changes_nothing(LEDGER, [known(number, 5) for number in (1, 2, 3)])


class KnownOnTest(LedgerCase):
    def test_by_the_end_of_a_day(self):
        days = {0: [-230, 10, 2], 1: [-230, 10, 2], 2: [-230, 10, 2], 3: [-50, 4, 4], 4: [-50, 4, 4],
                5: [-230, 8, 4], 6: [-230, 8, 4], LAST_DAY: [-230, 8, 4]}
        for day, sums in days.items():
            self.check_each(LEDGER, [(known_on(number, day), [0, sums[number - 1]]) for number in (1, 2, 3)])

    def test_before_the_first_entry(self):
        before = house() + [pass_days(2), dealt(3, 5, 7, 9)]
        self.check_each(before, [(known_on(3, 0), [0, 0]), (known_on(3, 1), [0, 0]), (known_on(3, 2), [0, 5])])

    def test_no_entries(self):
        self.check_each(house(), [(known_on(1, day), [0, 0]) for day in (0, LAST_DAY)])

    def test_on_the_last_day(self):
        before = house() + [pass_days(1000)] * 3 + [pass_days(999), dealt(3, 5, 7, 9)]
        self.check_each(before, [(known_on(3, 3998), [0, 0]), (known_on(3, 3999), [0, 5])])

    def test_a_day_that_is_over_never_changes(self):
        asked = [known_on(number, day) for number in (1, 2, 3) for day in range(5)]
        later = LEDGER + [correct(1), dealt(2, 5, 5, 5), move(2, 3, 1), pass_days(9), correct(2)]
        self.assertEqual(ask(later + asked)[-15:], ask(LEDGER + asked)[-15:])

    def test_no_such_account(self):
        self.check_refused([OPEN], known_on(1, 0), -6)
        self.check_refused(LEDGER, known_on(4, 3), -6)
        self.check_refused(LEDGER, known_on(24, LAST_DAY), -6)

    def test_changes_nothing(self):
        self.check_changes_nothing(LEDGER, [known_on(number, 5) for number in (1, 2, 3)])
