import inspect
import unittest

from coinledgers.houses import answers
from tests.ledger import GAINS, OPEN, STATE, TRIAL, account_told, ask, dealt, entry_info, flat, house, known, known_on
from tests.ledger import probe, rate_on, tree, unit_told, worth, would

TELLINGS = [worth(4, 0), tree(4), TRIAL, entry_info(1), known(4, 1), known_on(4, 0), GAINS, would(4, -10, -150, -450),
            rate_on(4, 0), unit_told(4), account_told(4), STATE]
CALLS = house(2) + [dealt(4, 10, 100, 200), [4, 2, 3, 1], [4, 4, 9, 1]] + TELLINGS + probe()


class InterfaceTest(unittest.TestCase):
    def test_plain_function(self):
        self.assertEqual(str(inspect.signature(answers)), "(calls)")
        self.assertEqual(answers.__module__, "coinledgers.houses")

    def test_counts_before_answers(self):
        self.assertEqual(answers([0, 1, 3, 1, 0, 0, 11, 1, 12, 1, 2, 0]),
                         [1, 0, 2, 0, 2, 2, 0, 1, 6, 0, 0, 0, 0, 0, 0, 2, 0, 0, 1, -1])

    def test_counts_before_tellings(self):
        before = flat(CALLS[:11])
        wanted = [5, 0, 90, 270, -30, 100, 4, 0, 1, 200, 0, 12, 0, -200, 200, 0, 0, 0, 0, 10, -10, 0, 0, 0,
                  17, 0, 0, 0, 0, 2, 4, 10, 100, 200, 0, 0, 1, -200, -200, -200, 0, 0, 3, 0, 10, 200, 2, 0, 10,
                  7, 0, 0, 0, 0, 0, 0, 0, 3, 0, 150, 100, 4, 0, 9, 1, 0, 3, 0, 1, 2, 4, 0, 4, 0, 2, 6, 0, 0, 4, 2, 4, 1]
        self.assertEqual(answers(before + flat(TELLINGS)), answers(before) + wanted)

    def test_one_call(self):
        self.assertEqual(answers([0]), [1, 0])
        self.assertEqual(answers([1]), [1, -2])
        self.assertEqual(answers([5, 0]), [1, -1])

    def test_whole_numbers_alone(self):
        found = answers(flat(CALLS))
        self.assertIs(type(found), list)
        self.assertEqual({type(number) for number in found}, {int})

    def test_what_is_handed_in_stays(self):
        handed = flat(CALLS)
        kept = list(handed)
        answers(handed)
        self.assertEqual(handed, kept)

    def test_never_changed_for_a_while_either(self):
        class Unchanging(list):
            def refuse(self, *rest):
                raise AssertionError("changed")

            __setitem__ = __delitem__ = append = extend = insert = pop = remove = reverse = sort = clear = refuse
            __iadd__ = __imul__ = refuse

        self.assertEqual(answers(Unchanging(flat(CALLS))), answers(flat(CALLS)))

    def test_nothing_is_kept(self):
        first = answers(flat(CALLS))
        self.assertEqual(answers([1]), [1, -2])
        self.assertEqual(answers(flat(CALLS)), first)

    def test_what_is_given_back_is_new(self):
        first = answers(flat(CALLS))
        kept = list(first)
        first.clear()
        self.assertEqual(answers(flat(CALLS)), kept)

    def test_400_calls(self):
        self.assertEqual(ask([OPEN] * 400), [[0]] + [[-3]] * 399)
        lines = [4, 1, 1, 0] * 6
        told = ask(house() + [[5, 24] + lines] * 150 + [[12, 4]] * 242)
        self.assertEqual(told[-1], [0, 900] + [1, 1, 0] * 900)

    def test_400_calls_that_tell(self):
        lines = [4, 1, 1, 0] * 6
        before = house() + [[5, 24] + lines] * 150
        told = ask(before + (TELLINGS * 21)[:242])
        self.assertEqual(told[158 + 5], [0, 900])
        for place in range(158, 400 - 12):
            self.assertEqual(told[place], told[place + 12])

    def test_160_entries_of_100_numbers(self):
        self.assertEqual(ask([[5, 100] + [10 ** 18] * 100] * 160), [[-1]] * 160)
