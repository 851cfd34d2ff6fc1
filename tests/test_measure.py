"""measure and forget: what they do, and each refusal of theirs."""

import unittest

from helper import MOST, adjust, forget, last, measure, run, sheet, told_state

TEXT = 'a:outside>b,c:b>d,e:d>outside'


class Measure(unittest.TestCase):
    def test_is_measured_from_now_on(self):
        self.assertEqual(run(sheet(TEXT), measure(1, 2, 7, 3)), [[0, 3, 2], [0]])
        self.assertEqual(last(sheet(TEXT), measure(1, 2, 7, 3), adjust(1)), [0, 0, 1, 3, 7, 1, 1, 7, 1, 3, 7, 1])

    def test_again_takes_the_place_of_the_former(self):
        self.assertEqual(told_state(sheet(TEXT), measure(1, 2, 7, 3), measure(1, 2, 8, 5), measure(1, 1, 9, 1)),
                         told_state(sheet(TEXT), measure(1, 1, 9, 1), measure(1, 2, 8, 5)))

    def test_each_quantity_by_itself(self):
        given = [sheet(TEXT)] + [measure(k, 1, 10 * k, 1) for k in (1, 2, 3)]
        for k in (1, 2, 3):
            self.assertEqual(last(*given, adjust(k))[3:6], [1, 10 * k, 1])

    def test_ends_of_the_ranges(self):
        for call in (measure(1, 1, 0, 1), measure(3, 3, 1000000000, 1000000)):
            self.assertEqual(last(sheet(TEXT), call), [0])

    def test_refused_outside_of_the_ranges(self):
        right = (2, 2, 5, 6)
        wrong = ((0, 4, -1, MOST, -MOST), (0, 4, -1, MOST, -MOST),
                 (-1, 1000000001, MOST, -MOST), (0, -1, 1000001, MOST, -MOST))
        before = [sheet(TEXT), measure(2, 2, 9, 9)]
        for place in range(4):
            for number in wrong[place]:
                call = measure(*right[:place], number, *right[place + 1:])
                self.assertEqual(last(*before, call), [-1], call)
                self.assertEqual(told_state(*before, call), told_state(*before), call)

    def test_no_sheet_yet(self):
        for stream in (0, 1):
            self.assertEqual(last(measure(1, stream, 1, 1)), [-1])


class Forget(unittest.TestCase):
    def test_is_not_measured_any_more(self):
        before = [sheet(TEXT), measure(1, 1, 7, 3), measure(1, 2, 9, 3), measure(2, 2, 5, 5)]
        self.assertEqual(run(*before, forget(1, 2))[-1], [0])
        self.assertEqual(told_state(*before, forget(1, 2)),
                         told_state(sheet(TEXT), measure(1, 1, 7, 3), measure(2, 2, 5, 5)))

    def test_not_measured(self):
        before = [sheet(TEXT), measure(1, 1, 7, 3)]
        for call in (forget(1, 2), forget(2, 1), forget(3, 3)):
            self.assertEqual(last(*before, call), [-2])
            self.assertEqual(told_state(*before, call), told_state(*before))

    def test_value_nothing_is_measured_all_the_same(self):
        self.assertEqual(last(sheet(TEXT), measure(1, 1, 0, 1), forget(1, 1)), [0])

    def test_twice(self):
        self.assertEqual(run(sheet(TEXT), measure(1, 1, 7, 3), forget(1, 1), forget(1, 1))[-2:], [[0], [-2]])

    def test_measured_again(self):
        self.assertEqual(told_state(sheet(TEXT), measure(1, 1, 7, 3), forget(1, 1), measure(1, 1, 4, 2)),
                         told_state(sheet(TEXT), measure(1, 1, 4, 2)))

    def test_not_measured_of_a_new_sheet(self):
        self.assertEqual(last(sheet(TEXT), measure(1, 1, 7, 3), sheet(TEXT), forget(1, 1)), [-2])

    def test_refused_outside_of_the_ranges(self):
        before = [sheet(TEXT)] + [measure(k, stream, 1, 1) for k in (1, 2, 3) for stream in (1, 2, 3)]
        for number in (0, 4, -1, MOST, -MOST):
            for call in (forget(number, 1), forget(1, number), forget(number, number)):
                self.assertEqual(last(*before, call), [-1], call)
                self.assertEqual(told_state(*before, call), told_state(*before), call)

    def test_range_is_looked_at_first(self):
        self.assertEqual(last(sheet(TEXT), forget(4, 1)), [-1])
        self.assertEqual(last(sheet(TEXT), forget(1, 4)), [-1])

    def test_no_sheet_yet(self):
        self.assertEqual(last(forget(1, 1)), [-1])


if __name__ == '__main__':
    unittest.main()
