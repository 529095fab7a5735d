"""Point 9: rows so far, and the least lots; point 2 of both."""

import copy
import itertools
import random
import unittest

import plain
from needplan.rows import least_lots, so_far
from samples import BIG, changed


class SoFar(unittest.TestCase):
    def test_rows(self):
        for row, told in (([], []), ([0], [0]), ([5], [5]), ([1, 2, 3], [1, 3, 6]), ([0, 0, 4, 0], [0, 0, 4, 4]),
                          ([3, -4, 1], [3, -1, 0]), ([BIG, 1, BIG], [BIG, BIG + 1, 2 * BIG + 1]),
                          ([1] * 401, list(range(1, 402)))):
            self.assertEqual(so_far(row), told)
            self.assertIs(so_far(row).__class__, list)

    def test_own(self):
        for row in ([], [0], [4], [1, 2, 3]):
            former = list(row)
            told = so_far(row)
            again = list(told)
            self.assertEqual(row, former)
            self.assertIsNot(told, row)
            if told:
                changed(told)
            told.append(9)
            self.assertEqual(row, former)
            self.assertEqual(so_far(row), again)
            kept = so_far(row)
            row.append(3)
            self.assertEqual(kept, again)


class LeastLots(unittest.TestCase):
    def right(self, have, need, gives, floor):
        """By each day the floor is kept; one lot fewer by it would fail on some day up to it."""
        asked = (list(have), list(need))
        lots = least_lots(have, need, gives, floor)
        self.assertIs(lots.__class__, list)
        self.assertEqual((have, need), asked)
        self.assertEqual(len(lots), len(have))
        level, levels, total = 0, [], 0
        for day, count in enumerate(lots):
            where = (have, need, gives, floor, lots, day)
            self.assertIs(count.__class__, int)
            self.assertGreaterEqual(count, 0, where)
            level += have[day] - need[day]
            levels.append(level)
            total += count
            self.assertGreaterEqual(level + gives * total, floor, where)
            if total > 0:
                self.assertLess(min(levels) + gives * (total - 1), floor, where)
        self.assertEqual(lots, plain.least_row(have, need, gives, floor))

    def test_rows(self):
        for have, need, gives, floor, lots in (
                ([], [], 1, 0, []),
                ([], [], 3, 7, []),
                ([0], [0], 1, 0, [0]),
                ([0], [0], 1, 1, [1]),
                ([0], [0], 5, 1, [1]),
                ([0], [0], 5, 5, [1]),
                ([0], [0], 5, 6, [2]),
                ([4], [0], 5, 5, [1]),
                ([5], [0], 5, 5, [0]),
                ([0, 0, 0], [1, 1, 1], 1, 0, [1, 1, 1]),
                ([0, 0, 0], [1, 1, 1], 2, 0, [1, 0, 1]),
                ([0, 0, 0], [1, 1, 1], 3, 0, [1, 0, 0]),
                ([0, 0, 0], [1, 1, 1], 100, 0, [1, 0, 0]),
                ([2, 0, 0], [1, 1, 1], 1, 0, [0, 0, 1]),
                ([2, 0, 0], [1, 1, 1], 1, 1, [0, 1, 1]),
                ([0, 9, 0], [1, 1, 1], 1, 0, [1, 0, 0]),
                ([0, 0, 9], [1, 1, 1], 1, 0, [1, 1, 0]),
                ([3, 0, 5, 0], [0, 7, 0, 5], 2, 0, [0, 2, 0, 0]),
                ([3, 0, 5, 0], [0, 7, 0, 6], 2, 0, [0, 2, 0, 1]),
                ([0, 0, 0, 0], [0, 0, 0, 0], 4, 0, [0, 0, 0, 0]),
                ([0, 0, 0, 0], [0, 0, 0, 0], 4, 9, [3, 0, 0, 0]),
                ([0, 0, 0], [0, 10, 0], 4, 0, [0, 3, 0]),
                ([10, 0, 0], [0, 0, 10], 4, 3, [0, 0, 1])):
            self.assertEqual(least_lots(have, need, gives, floor), lots, (have, need, gives, floor))
            self.right(have, need, gives, floor)

    def test_what_comes_on_a_day_may_go_on_it(self):
        self.assertEqual(least_lots([0, 6], [0, 6], 1, 0), [0, 0])
        self.assertEqual(least_lots([0, 6], [0, 7], 1, 0), [0, 1])

    def test_what_comes_later_is_no_help(self):
        self.assertEqual(least_lots([0, 6], [6, 0], 1, 0), [6, 0])
        self.assertEqual(least_lots([0, 6, 0, 0], [6, 0, 6, 1], 1, 0), [6, 0, 0, 1])

    def test_great_numbers(self):
        self.assertEqual(least_lots([0, 0], [BIG, BIG], 1, 0), [BIG, BIG])
        self.assertEqual(least_lots([0, 0], [BIG, 1], BIG, 0), [1, 1])
        self.assertEqual(least_lots([0, 0], [0, 0], 10, BIG), [10 ** 39, 0])
        self.assertEqual(least_lots([BIG - 1, 0], [0, 1], BIG, BIG), [1, 0])
        source = random.Random(91)
        for turn in range(100):
            have = [source.choice((0, source.randint(0, BIG))) for day in range(8)]
            need = [source.choice((0, source.randint(0, 2 * BIG))) for day in range(8)]
            self.right(have, need, source.choice((1, 7, BIG // 3, source.randint(1, BIG), 10 ** 59)),
                       source.choice((0, 1, source.randint(0, BIG), 10 ** 60 - 1)))

    def test_every_small_row(self):
        for days in range(4):
            rows = [list(row) for row in itertools.product(range(3), repeat=days)]
            for have, need in itertools.product(rows, rows):
                for gives, floor in itertools.product((1, 2, 4), (0, 1, 3)):
                    self.right(have, need, gives, floor)

    def test_no_other_lots_do_with_fewer(self):
        source = random.Random(92)
        for turn in range(150):
            have = [source.choice((0, 0, 1, 3)) for day in range(4)]
            need = [source.choice((0, 1, 2, 3)) for day in range(4)]
            gives, floor = source.randint(1, 3), source.randint(0, 2)
            least = list(itertools.accumulate(least_lots(have, need, gives, floor)))
            for row in itertools.product(range(4), repeat=4):
                lots = list(itertools.accumulate(row))
                left = [sum(have[:day + 1]) + gives * lots[day] - sum(need[:day + 1]) for day in range(4)]
                if min(left) >= floor:
                    self.assertTrue(all(few <= many for few, many in zip(least, lots)), (have, need, gives, floor))

    def test_long_rows(self):
        source = random.Random(93)
        for turn in range(3):
            have = [source.choice((0, 0, 0, 0, 30)) for day in range(401)]
            need = [source.choice((0, 0, 3, 9)) for day in range(401)]
            self.right(have, need, source.randint(1, 40), source.randint(0, 40))

    def test_own(self):
        have, need = [2, 0, 1], [1, 4, 0]
        former = copy.deepcopy((have, need))
        for turn in range(3):
            told = least_lots(have, need, 2, 1)
            self.assertEqual(told, [0, 2, 0])
            self.assertIsNot(told, have)
            self.assertIsNot(told, need)
            changed(told)
            self.assertEqual((have, need), former)
        same = [0, 0]
        self.assertIsNot(least_lots(same, same, 1, 0), same)
        kept = least_lots(have, need, 2, 1)
        have.clear()
        need[0] = 50
        self.assertEqual(kept, [0, 2, 0])


if __name__ == "__main__":
    unittest.main()
