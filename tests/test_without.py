"""without and suspect: by hand, and each refusal of theirs."""

import unittest

from helper import MOST, adjust, last, measure, measured_all, run, sheet, suspect, told_state, without

SERIES = 'a:outside>m,b:m>n,c:n>outside'
TWO = 'a:outside>b,c:b>outside,d:outside>e,f:e>outside'


class Without(unittest.TestCase):
    def test_measured_and_known_then(self):
        given = [sheet(SERIES)] + measured_all(1, [(3, 1), (7, 2), (5, 1)])
        # The other two meet in their weighted middle.
        self.assertEqual(last(*given, without(1, 1)), [0, 1, 19, 3, 8, 3])
        self.assertEqual(last(*given, without(1, 2)), [0, 1, 4, 1, 2, 1])
        self.assertEqual(last(*given, without(1, 3)), [0, 1, 17, 3, 32, 3])

    def test_measured_and_not_known_then(self):
        given = [sheet('a:outside>b,c:b>outside'), measure(1, 1, 10, 1)]
        self.assertEqual(last(*given, without(1, 1)), [0, 0, 0, 1, 0, 1])

    def test_change_of_the_others_is_told_also_if_the_stream_is_not_known_then(self):
        given = [sheet(TWO)] + measured_all(1, [(5, 1), None, (4, 1), (6, 1)])
        self.assertEqual(last(*given, without(1, 1)), [0, 0, 0, 1, 2, 1])

    def test_not_measured_but_known(self):
        given = [sheet(TWO)] + measured_all(1, [(5, 1), None, (4, 1), (6, 1)])
        self.assertEqual(last(*given, without(1, 2)), [0, 1, 5, 1, 2, 1])

    def test_not_measured_and_not_known(self):
        given = [sheet(TWO)] + measured_all(1, [None, None, (4, 1), (6, 1)])
        self.assertEqual(last(*given, without(1, 1)), [0, 0, 0, 1, 2, 1])
        self.assertEqual(last(sheet(TWO), without(1, 4)), [0, 0, 0, 1, 0, 1])

    def test_known_then_may_be_nothing_or_less(self):
        self.assertEqual(last(sheet('a:b>c'), measure(1, 1, 5, 3), without(1, 1)), [0, 1, 0, 1, 0, 1])
        given = [sheet('a:outside>b,c:outside>b')] + measured_all(1, [(4, 1), (1, 1)])
        self.assertEqual(last(*given, without(1, 2)), [0, 1, -4, 1, 0, 1])

    def test_each_quantity_by_itself(self):
        given = [sheet(SERIES)] + [measure(k, 1, 10 * k, 1) for k in (1, 2, 3)]
        for k in (1, 2, 3):
            self.assertEqual(last(*given, without(k, 2)), [0, 1, 10 * k, 1, 0, 1])

    def test_stream_stays_measured(self):
        given = [sheet(SERIES)] + measured_all(1, [(3, 1), (7, 2), (5, 1)])
        self.assertEqual(told_state(*given, without(1, 2)), told_state(*given))
        self.assertEqual(run(*given, without(1, 2), without(1, 2))[-1], [0, 1, 4, 1, 2, 1])

    def test_refused_outside_of_the_ranges(self):
        before = [sheet(SERIES)] + measured_all(1, [(3, 1), (7, 2), (5, 1)])
        for stream in (1, 3):
            for k in (1, 3):
                self.assertEqual(last(*before, without(k, stream))[0], 0)
        for call in ([without(k, 1) for k in (0, 4, -1, MOST, -MOST)]
                     + [without(1, stream) for stream in (0, 4, -1, MOST, -MOST)]):
            self.assertEqual(last(*before, call), [-1], call)
            self.assertEqual(told_state(*before, call), told_state(*before), call)

    def test_no_sheet_yet(self):
        for stream in (0, 1):
            self.assertEqual(last(without(1, stream)), [-1])


class Suspect(unittest.TestCase):
    def test_the_one_without_which_the_change_is_least(self):
        given = [sheet(SERIES)] + measured_all(1, [(3, 1), (9, 1), (3, 1)])
        self.assertEqual(last(*given, suspect(1)), [0, 2, 0, 1])
        given = [sheet(SERIES)] + measured_all(1, [(3, 1), (4, 2), (9, 1)])
        # Without a 50/3, without b 18, without c 2/3.
        self.assertEqual(last(*given, suspect(1)), [0, 3, 2, 3])

    def test_of_several_the_first(self):
        # Without a or b 2 is left, without c 8.
        given = [sheet(SERIES)] + measured_all(1, [(3, 1), (7, 1), (5, 1)])
        self.assertEqual(last(*given, suspect(1)), [0, 1, 2, 1])
        # Without c or b 2 is left, without a 8.
        given = [sheet(SERIES)] + measured_all(1, [(5, 1), (7, 1), (3, 1)])
        self.assertEqual(last(*given, suspect(1)), [0, 2, 2, 1])
        given = [sheet(SERIES)] + measured_all(1, [(5, 1), (5, 2), (5, 3)])
        self.assertEqual(last(*given, suspect(1)), [0, 1, 0, 1])

    def test_least_by_the_fraction_not_by_what_is_above(self):
        # By what is above alone, b would be told.
        given = [sheet(SERIES)] + measured_all(1, [(3, 1), (2, 3), (5, 1)])
        changes = [last(*given, without(1, stream))[4:] for stream in (1, 2, 3)]
        self.assertEqual(changes, [[27, 4], [2, 1], [3, 4]])
        self.assertEqual(last(*given, suspect(1)), [0, 3, 3, 4])

    def test_only_measured_streams_that_can_be_checked(self):
        # Without a or c the change were nothing too, but a cannot be checked and c is not measured.
        given = [sheet(TWO)] + measured_all(1, [(5, 1), None, (4, 1), (4, 1)])
        self.assertEqual(last(*given, suspect(1)), [0, 3, 0, 1])

    def test_one_alone(self):
        self.assertEqual(last(sheet('a:b>c'), measure(1, 1, 5, 3), suspect(1)), [0, 1, 0, 1])

    def test_none(self):
        self.assertEqual(last(sheet(SERIES), suspect(1)), [0, 0])
        given = [sheet(SERIES), measure(1, 2, 5, 1)]
        self.assertEqual(last(*given, adjust(1))[3::3], [3, 1, 3])
        self.assertEqual(last(*given, suspect(1)), [0, 0])

    def test_no_sheet_yet(self):
        self.assertEqual(run(suspect(1), suspect(3)), [[0, 0], [0, 0]])

    def test_each_quantity_by_itself(self):
        given = [sheet(SERIES)] + measured_all(1, [(9, 1), (3, 1), (3, 1)]) + measured_all(3, [(3, 1), (3, 1), (9, 1)])
        self.assertEqual(run(*given, suspect(1), suspect(2), suspect(3))[-3:], [[0, 1, 0, 1], [0, 0], [0, 3, 0, 1]])

    def test_all_stay_measured(self):
        given = [sheet(SERIES)] + measured_all(1, [(3, 1), (9, 1), (3, 1)])
        self.assertEqual(told_state(*given, suspect(1)), told_state(*given))
        self.assertEqual(run(*given, suspect(1), suspect(1))[-1], [0, 2, 0, 1])

    def test_wrong_quantity(self):
        before = [sheet(SERIES)] + measured_all(1, [(3, 1), (9, 1), (3, 1)])
        for k in (0, 4, -1, MOST, -MOST):
            self.assertEqual(last(*before, suspect(k)), [-1])
            self.assertEqual(told_state(*before, suspect(k)), told_state(*before))
            self.assertEqual(last(suspect(k)), [-1])


if __name__ == '__main__':
    unittest.main()
