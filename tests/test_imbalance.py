"""imbalance and told: what is measured, as it stands, and each refusal of theirs."""

import unittest

from helper import MOST, forget, imbalance, last, measure, measured_all, run, sheet, told, told_state

SPLIT = 'feed:outside>mill,over:mill>outside,under:mill>cell,tail:cell>outside'


class Imbalance(unittest.TestCase):
    def test_what_flows_in_less_what_flows_out(self):
        given = [sheet(SPLIT)] + measured_all(1, [(10, 1), (4, 2), (5, 3), (7, 4)])
        self.assertEqual(last(*given, imbalance(1)), [0, 1, -2])

    def test_streams_that_are_not_measured_count_as_nothing(self):
        given = [sheet(SPLIT)] + measured_all(1, [None, (4, 1), (5, 1), None])
        self.assertEqual(last(*given, imbalance(1)), [0, -9, 5])
        self.assertEqual(last(*given, forget(1, 3), imbalance(1)), [0, -4, 0])

    def test_nothing_measured(self):
        self.assertEqual(last(sheet(SPLIT), imbalance(1)), [0, 0, 0])

    def test_by_the_values_not_by_the_balanced_flows(self):
        given = [sheet('a:outside>b,c:b>outside'), measure(1, 1, 10, 2), measure(1, 2, 7, 1)]
        self.assertEqual(last(*given, imbalance(1)), [0, 3])

    def test_outside_is_not_told(self):
        self.assertEqual(last(sheet('a:outside>b'), measure(1, 1, 5, 1), imbalance(1)), [0, 5])
        self.assertEqual(last(sheet('a:b>outside'), measure(1, 1, 5, 1), imbalance(1)), [0, -5])
        self.assertEqual(last(sheet('a:b>c'), measure(1, 1, 5, 1), imbalance(1)), [0, -5, 5])

    def test_each_quantity_by_itself(self):
        given = [sheet(SPLIT)] + [measure(k, 1, 10 * k, 1) for k in (1, 2, 3)]
        for k in (1, 2, 3):
            self.assertEqual(last(*given, imbalance(k)), [0, 10 * k, 0])

    def test_largest(self):
        text = ','.join(f's{name}:n{"abcdefg"[place % 7]}>nh' for place, name in enumerate('abcdefghijkl'))
        given = [sheet(text)] + measured_all(3, [(1000000000, 1000000)] * 12)
        two, one = -2000000000, -1000000000
        # The nodes stand in the text's order: nh is the second.
        self.assertEqual(last(*given, imbalance(3)), [0, two, 12000000000, two, two, two, two, one, one])


class Told(unittest.TestCase):
    def test_measured_and_not(self):
        given = [sheet(SPLIT)] + measured_all(2, [(10, 3), None, (0, 1), None])
        self.assertEqual(last(*given, told(2)),
                         [0, 4, 0, 1, 1, 10, 3, 1, 0, 0, 0, 0, 1, 2, 1, 0, 1, 2, 0, 0, 0, 0])
        self.assertEqual(last(*given, told(1)), [0, 4, 0, 1, 0, 0, 0, 1, 0, 0, 0, 0, 1, 2, 0, 0, 0, 2, 0, 0, 0, 0])

    def test_values_stay_as_measured(self):
        # The balanced flows are 9 and 9.
        given = [sheet('a:outside>b,c:b>outside'), measure(1, 1, 10, 2), measure(1, 2, 7, 1)]
        self.assertEqual(last(*given, told(1)), [0, 2, 0, 1, 1, 10, 2, 1, 0, 1, 7, 1])

    def test_behind_measure_forget_and_sheet(self):
        given = [sheet('a:b>c'), measure(1, 1, 5, 6), told(1), measure(1, 1, 7, 8), told(1), forget(1, 1), told(1),
                 measure(1, 1, 7, 8), sheet('a:b>c'), told(1)]
        answered = run(*given)
        self.assertEqual([answered[place] for place in (2, 4, 6, 9)], [
            [0, 1, 1, 2, 1, 5, 6], [0, 1, 1, 2, 1, 7, 8], [0, 1, 1, 2, 0, 0, 0], [0, 1, 1, 2, 0, 0, 0]])

    def test_largest(self):
        text = ','.join(f's{name}:n{"abcdefgh"[place % 8]}>outside' for place, name in enumerate('abcdefghijkl'))
        given = [sheet(text)] + measured_all(3, [(1000000000, 1000000)] * 12)
        rows = [[place % 8 + 1, 0, 1, 1000000000, 1000000] for place in range(12)]
        self.assertEqual(last(*given, told(3)), [0, 12] + [number for row in rows for number in row])


class Both(unittest.TestCase):
    def test_no_sheet_yet(self):
        for k in (1, 2, 3):
            self.assertEqual(run(imbalance(k), told(k)), [[0], [0, 0]])

    def test_wrong_quantity(self):
        before = [sheet(SPLIT), measure(1, 1, 5, 1)]
        for k in (0, 4, -1, MOST, -MOST):
            for call in (imbalance(k), told(k)):
                self.assertEqual(last(*before, call), [-1])
                self.assertEqual(told_state(*before, call), told_state(*before))
                self.assertEqual(last(call), [-1])

    def test_asking_changes_nothing(self):
        before = [sheet(SPLIT), measure(1, 1, 5, 1), measure(3, 2, 5, 2)]
        self.assertEqual(told_state(*before, imbalance(1), told(3)), told_state(*before))


if __name__ == '__main__':
    unittest.main()
