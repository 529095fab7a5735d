"""Points 6 and 7: rings, levels, the worked order and times; point 2 of all of them."""

import copy
import unittest

from needplan.errors import NeedError, Ring
from needplan.order import check_rings, levels, ring, times, worked
from samples import LETTERS, RINGS, chain, has_ring, is_ring, level, random_shops, shop, small_shops, time, ware

HOUSE = shop(["house 5 door wall", "nail 2", "door 3 wood nail", "wall 1 brick nail door", "wood 7", "brick 4 clay",
              "clay 30", "shed 2 wood"])
HOUSE_LEVELS = {"house": 0, "shed": 0, "wall": 1, "door": 2, "brick": 2, "nail": 3, "wood": 3, "clay": 3}
HOUSE_WORKED = ["house", "shed", "wall", "door", "brick", "nail", "wood", "clay"]
HOUSE_TIMES = {"house": 40, "nail": 2, "door": 10, "wall": 35, "wood": 7, "brick": 34, "clay": 30, "shed": 9}


class Rings(unittest.TestCase):
    def refused(self, asked):
        for call in (check_rings, levels, worked, times):
            with self.subTest(call=call.__name__, asked=asked), self.assertRaises(Ring) as taken:
                call(asked)
            self.assertIsInstance(taken.exception, NeedError)

    def taken(self, asked):
        self.assertIsNone(ring(asked), asked)
        self.assertIsNone(check_rings(asked), asked)

    def found(self, asked):
        if has_ring(asked):
            self.assertTrue(is_ring(asked, ring(asked)), (asked, ring(asked)))
            self.refused(asked)
            return True
        self.taken(asked)
        return False

    def test_rings(self):
        for rows in RINGS:
            for order in (rows, rows[::-1]):
                asked = shop(order)
                self.assertTrue(is_ring(asked, ring(asked)), (asked, ring(asked)))
                self.refused(asked)

    def test_the_only_ring(self):
        self.assertEqual(ring(shop(["a 0 a"])), ["a"])
        self.assertEqual(ring(shop(["top 0 a", "a 0 b", "b 0 b end", "end"])), ["b"])
        self.assertIn(ring(shop(["a 0 c", "b 0 a", "c 0 b"])), (["a", "c", "b"], ["c", "b", "a"], ["b", "a", "c"]))

    def test_no_ring(self):
        for asked in (HOUSE, shop(["a"]), shop(["a", "b"]), shop(["a 0 b c", "b 0 c", "c"]),
                      shop(["d", "b 0 d", "c 0 d", "a 0 b c"]), shop(chain(LETTERS[:12])),
                      shop(chain(LETTERS[:12])[::-1])):
            self.taken(asked)

    def test_every_small_shop(self):
        found = 0
        for asked in small_shops():
            found += self.found(asked)
        # Of three wares, 25 ways of being parts have no ring.
        self.assertEqual(found, 512 - 25)

    def test_many_shops(self):
        found = 0
        for asked in random_shops(400, 6, False):
            found += self.found(asked)
        self.assertTrue(50 < found < 350, found)
        for asked in random_shops(200, 7, True):
            self.taken(asked)

    def test_each_told_list_is_new(self):
        for rows in RINGS:
            asked = shop(rows)
            first = ring(asked)
            former = list(first)
            first.append("more")
            first[0] = "less"
            self.assertEqual(ring(asked), former)
            self.assertIsNot(ring(asked), ring(asked))


class Order(unittest.TestCase):
    def told(self, asked):
        names = [entry[0] for entry in asked[0]]
        by_level = {name: level(asked, name) for name in names}
        order = [name for depth in range(len(names)) for name in names if by_level[name] == depth]
        self.assertEqual(levels(asked), by_level, asked)
        self.assertEqual(worked(asked), order, asked)
        self.assertEqual(times(asked), {name: time(asked, name) for name in names}, asked)

    def test_a_house(self):
        self.assertEqual(levels(HOUSE), HOUSE_LEVELS)
        self.assertEqual(worked(HOUSE), HOUSE_WORKED)
        self.assertEqual(times(HOUSE), HOUSE_TIMES)

    def test_one_ware(self):
        asked = shop(["rod 0"])
        self.assertEqual((levels(asked), worked(asked), times(asked)), ({"rod": 0}, ["rod"], {"rod": 0}))
        self.assertEqual(times(shop(["rod 30"])), {"rod": 30})

    def test_wares_of_one_level_stay_as_they_stand(self):
        names = list("lakbjcidhegf")
        self.assertEqual(worked(shop(names)), names)
        self.assertEqual(worked(shop(names[::-1])), names[::-1])
        self.assertEqual(levels(shop(names)), dict.fromkeys(names, 0))
        self.assertEqual(worked(shop(["z", "b", "y", "top 0 y b", "a 0 z"])), ["top", "a", "z", "b", "y"])

    def test_a_part_met_by_several_ways(self):
        asked = shop(["d 1", "c 2 d", "b 20 d", "a 1 d b c"])
        self.assertEqual(levels(asked), {"a": 0, "b": 1, "c": 1, "d": 2})
        self.assertEqual(worked(asked), ["a", "c", "b", "d"])
        self.assertEqual(times(asked), {"a": 22, "b": 21, "c": 3, "d": 1})

    def test_the_longest_way_decides_the_level(self):
        asked = shop(["e 1", "a 1 e b", "b 1 c", "c 1 d", "d 1 e", "x 1 e"])
        self.assertEqual(levels(asked), {"a": 0, "x": 0, "b": 1, "c": 2, "d": 3, "e": 4})
        self.assertEqual(worked(asked), ["a", "x", "b", "c", "d", "e"])

    def test_the_greatest_time_of_the_parts_counts_once(self):
        asked = shop(["a 4 b c d", "b 3", "c 9", "d 0 b"])
        self.assertEqual(times(asked), {"a": 13, "b": 3, "c": 9, "d": 3})

    def test_chains_of_twelve(self):
        names = list(LETTERS[:12])
        rows = chain(names, 30)
        for asked in (shop(rows), shop(rows[::-1]), shop(rows[::2] + rows[1::2])):
            self.assertEqual(levels(asked), {name: place for place, name in enumerate(names)})
            self.assertEqual(worked(asked), names)
            self.assertEqual(times(asked), {name: 360 - 30 * place for place, name in enumerate(names)})

    def test_amounts_stock_and_wants_have_no_bearing(self):
        wares = (ware("b", 2, 50, 9, 9, ((3, 3),)), ware("a", 3, 7, 1, 100, (), (("b", 40),)))
        for wants in ((), (("b", 400, 8), ("a", 0, 0))):
            asked = (wares, wants)
            self.assertEqual(levels(asked), {"a": 0, "b": 1})
            self.assertEqual(worked(asked), ["a", "b"])
            self.assertEqual(times(asked), {"a": 5, "b": 2})

    def test_every_small_shop(self):
        for asked in small_shops():
            if not has_ring(asked):
                self.told(asked)

    def test_many_shops(self):
        for asked in random_shops(300, 8, True):
            self.told(asked)

    def test_beyond_the_bounds(self):
        names = list(LETTERS)
        asked = shop(chain(names, 31), [("a", 405, 1)] * 21)
        self.assertEqual(worked(asked), names)
        self.assertEqual(levels(asked)["z"], 25)
        self.assertEqual(times(asked)["a"], 31 * 26)
        self.assertIsNone(ring(asked))


class Own(unittest.TestCase):
    def test_what_is_handed_in_stays(self):
        for asked in [HOUSE] + [shop(rows) for rows in RINGS]:
            former = copy.deepcopy(asked)
            for call in (ring, check_rings, levels, worked, times):
                try:
                    call(asked)
                except Ring:
                    pass
                self.assertEqual(asked, former)

    def test_what_is_told_is_the_askers_own(self):
        for call, told in ((levels, HOUSE_LEVELS), (worked, HOUSE_WORKED), (times, HOUSE_TIMES)):
            first = call(HOUSE)
            self.assertIs(first.__class__, told.__class__)
            first.clear()
            second = call(HOUSE)
            self.assertEqual(second, told)
            second.update(house=99) if isinstance(second, dict) else second.reverse()
            self.assertEqual(call(HOUSE), told)
            self.assertEqual(call(copy.deepcopy(HOUSE)), told)

    def test_one_answer_has_no_bearing_on_another(self):
        other = shop(["clay 1 house", "house 2"])
        for turn in range(2):
            self.assertEqual(levels(HOUSE), HOUSE_LEVELS)
            self.assertEqual(levels(other), {"clay": 0, "house": 1})
            self.assertEqual(worked(HOUSE), HOUSE_WORKED)
            self.assertEqual(worked(other), ["clay", "house"])
            self.assertEqual(times(HOUSE), HOUSE_TIMES)
            self.assertEqual(times(other), {"clay": 3, "house": 2})
            self.assertEqual(ring(shop(["clay 1 clay", "house 2"])), ["clay"])
            self.assertIsNone(ring(HOUSE))

    def test_whole_numbers(self):
        for call in (levels, times):
            for told in call(HOUSE).values():
                self.assertIs(told.__class__, int)


if __name__ == "__main__":
    unittest.main()
