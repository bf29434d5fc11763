"""-1 at both ends of every range, -2 with no house open, and which of them comes first."""

from tests.ledger import FAR, LedgerCase, ask, dealt, entry, house, last, rate

UNIT = (1, 10)
ACCOUNT = (1, 24)
ENTRY = (1, 150)
DAY = (0, 3999)
AMOUNT = (-1000000000, 1000000000)

# By the call's number: the ranges of its numbers.
RANGES = {
    0: [], 1: [], 2: [UNIT], 3: [UNIT, (0, 24), (0, 4)], 4: [UNIT, (1, 1000000), (1, 1000000)], 6: [ENTRY],
    7: [ACCOUNT, ACCOUNT, AMOUNT], 8: [], 9: [], 10: [(1, 1000)], 11: [ACCOUNT], 12: [ACCOUNT], 13: [ACCOUNT, DAY],
    14: [ACCOUNT], 15: [], 16: [ENTRY], 17: [ACCOUNT, (0, 150)], 18: [ACCOUNT, DAY], 19: [],
    20: [ACCOUNT, AMOUNT, AMOUNT, AMOUNT], 21: [UNIT, DAY], 22: [UNIT], 23: [ACCOUNT], 24: [],
}
BEFORE = house() + [dealt(2, 5, 5, 5), rate(2, 3, 2)]


# Each number in turn at the ends of its range, or beyond them; the others at their lowest.
def calls_with(found):
    for number, ranges in RANGES.items():
        for place, (low, high) in enumerate(ranges):
            for value in found(low, high):
                call = [number] + [lowest for lowest, highest in ranges]
                call[1 + place] = value
                yield call


def ends(low, high):
    return [low, high]


def beyond(low, high):
    return [low - 1, high + 1, low - 1000, high + 1000, -FAR, FAR]


class RangeTest(LedgerCase):
    def test_every_call_but_entry(self):
        self.assertEqual(sorted(RANGES), [number for number in range(25) if number != 5])

    def test_beyond(self):
        for call in calls_with(beyond):
            self.check_refused(BEFORE, call, -1)

    def test_beyond_with_no_house_open(self):
        for call in calls_with(beyond):
            self.assertEqual(last([call]), [-1], call)

    def test_beyond_ahead_of_every_refusal_told_with_a_call(self):
        # Neither units nor accounts nor entries are there.
        for call in calls_with(beyond):
            self.assertEqual(last([[0], call]), [-1], call)

    def test_at_the_ends(self):
        for call in calls_with(ends):
            self.assertNotIn(last(BEFORE + [call]), ([-1], [-2]), call)

    def test_at_the_ends_with_no_house_open(self):
        for call in calls_with(ends):
            self.assertEqual(last([call]), [-2], call)

    def test_no_house_open(self):
        calls = [[number] + [high for low, high in ranges] for number, ranges in RANGES.items() if number]
        self.assertEqual(ask(calls + [entry(1, 1, 1, 1)]), [[-2]] * 24)
        self.assertEqual(ask(calls + [[0], [24]])[-2:], [[0], [0, 0, 1, 0, 0, 0]])

    def test_several_beyond(self):
        for number, ranges in RANGES.items():
            if ranges:
                self.check_refused(BEFORE, [number] + [FAR] * len(ranges), -1)
                self.check_refused(BEFORE, [number] + [-FAR] * len(ranges), -1)

    def test_entry(self):
        line = [3, 1, 1, 1, 1, -1, -1, -1]
        for place in range(8):
            low, high = ACCOUNT if place % 4 == 0 else AMOUNT
            for value in beyond(low, high):
                call = entry(*[value if place == k else number for k, number in enumerate(line)])
                self.check_refused(BEFORE, call, -1)
                self.assertEqual(last([call]), [-1])
            for value in ends(low, high):
                call = entry(*[value if place == k else number for k, number in enumerate(line)])
                self.assertNotEqual(last(BEFORE + [call]), [-1])
                self.assertEqual(last([call]), [-2])
