"""Points 14 to 16: wants put off, how late a shop is, the most of a ware; points 2, 3 and 6 of them."""

import copy
import unittest

import plain
from needplan.errors import NoName, Ring
from needplan.explode import explode
from needplan.order import levels, ring, times, worked
from needplan.plans import begun, days_of, judged, needs, planned, stocks
from needplan.shifts import late, most, put_off, with_want
from needplan.wares import is_shop, ware_of
from samples import BIG, LETTERS, RINGS, chain, changed, full_shops, random_shops, shop, time, ware

TABLE = ((ware("leg", 3, 4, 2, 9, ((2, 4),)), ware("table", 1, 1, 0, 1, (), (("leg", 4), ("top", 1))),
          ware("top", 5, 1, 0, 2)),
         (("table", 2, 2), ("leg", 4, 1), ("table", 0, 0)))
TWENTY = (TABLE[0], (("table", 3, 0),) * 19 + (("leg", 4, 1),))


def tells_plan(asked):
    return planned(asked)[0] == "plan"


def longest(asked):
    return max(time(asked, entry[0]) for entry in asked[0])


class PutOff(unittest.TestCase):
    def test_by_some_days(self):
        self.assertEqual(put_off(TABLE, 0), TABLE)
        for days in (0, 1, 7, 398, 400, 1000, BIG):
            self.assertEqual(put_off(TABLE, days),
                             (TABLE[0], (("table", 2 + days, 2), ("leg", 4 + days, 1), ("table", days, 0))))

    def test_no_wants(self):
        self.assertEqual(put_off((TABLE[0], ()), 5), (TABLE[0], ()))

    def test_put_off_twice(self):
        for first, second in ((0, 3), (2, 0), (200, 300)):
            self.assertEqual(put_off(put_off(TABLE, first), second), put_off(TABLE, first + second))

    def test_what_is_told_is_a_shop(self):
        for days in (0, 1, 396):
            self.assertIs(is_shop(put_off(TABLE, days)), True)
        self.assertIs(is_shop(put_off(TABLE, 397)), False)
        self.assertIs(is_shop(put_off(TWENTY, 5)), True)

    def test_beyond_day_400(self):
        asked = put_off(TABLE, 500)
        self.assertEqual(days_of(asked), 505)
        self.assertEqual(explode(asked), explode(TABLE))
        told = planned(asked)
        self.assertEqual(told, plain.planned(asked))
        self.assertEqual(told[1]["table"], [0] * 502 + [1, 0, 0])
        self.assertEqual(judged(asked, told[1]), ("good",))
        self.assertEqual(stocks(asked, told[1], "table"), [1] * 502 + [0, 0, 0])
        self.assertEqual(needs(asked, told[1], "top"), [0] * 501 + [1, 0, 0, 0])
        self.assertEqual(begun(asked, told[1], "table"), [0] * 501 + [1, 0, 0, 0])
        self.assertEqual(late(asked), 0)
        self.assertEqual(most(asked, "top", 500), ("any",))
        self.assertEqual(most(asked, "top", 4), ("most", 2))


class Late(unittest.TestCase):
    def right(self, asked):
        told = late(asked)
        if told is None:
            self.assertFalse(tells_plan((asked[0], ())), asked)
            for days in range(longest(asked) + 5):
                self.assertFalse(tells_plan(put_off(asked, days)), (asked, days))
        else:
            self.assertIs(told.__class__, int)
            self.assertTrue(tells_plan(put_off(asked, told)), (asked, told))
            for days in range(told):
                self.assertFalse(tells_plan(put_off(asked, days)), (asked, told, days))
        return told

    def test_one_ware(self):
        for lag in (0, 1, 3, 30):
            for day in (0, 1, 2, 3, 4, 29, 30, 31, 400):
                self.assertEqual(late(shop([f"a {lag}"], [("a", day, 5)])), max(0, lag - day))

    def test_nothing_wanted(self):
        self.assertEqual(late(shop(["a 30"])), 0)
        self.assertEqual(late(shop(["a 30 b", "b 30"], [("a", 0, 0), ("b", 0, 0)])), 0)

    def test_a_table(self):
        self.assertEqual(late(TABLE), 0)
        # Two more tables than the one that is there wait for legs, that come on day 2; three for a top, from day 5 on.
        self.assertEqual(late((TABLE[0], (("table", 1, 3),))), 2)
        self.assertEqual(late((TABLE[0], (("table", 1, 4),))), 5)
        self.assertEqual(late((TABLE[0], (("table", 4, 4), ("table", 0, 1)))), 2)
        self.assertEqual(late((TABLE[0], (("table", 6, 4), ("table", 0, 1)))), 0)

    def test_chains_of_lags_of_thirty(self):
        rows = chain(LETTERS[:12], 30)
        for order in (rows, rows[::-1]):
            for day in (0, 1, 29, 30, 200, 359, 360, 361, 400):
                self.assertEqual(late(shop(order, [("a", day, 2)])), max(0, 360 - day))
            self.assertEqual(late(shop(order, [("l", 0, 1)])), 30)
            self.assertEqual(late(shop(order, [("l", 0, 1), ("g", 100, 1), ("c", 290, 1)])), 80)

    def test_stock_along_a_chain(self):
        for holder, days in (("a", 0), ("b", 5), ("c", 12), ("d", 21), ("none", 32)):
            wares = tuple(ware(name, lag, stock=1 if name == holder else 0, parts=parts) for name, lag, parts in
                          (("d", 11, ()), ("a", 5, (("b", 1),)), ("c", 9, (("d", 1),)), ("b", 7, (("c", 1),))))
            self.assertEqual(self.right((wares, (("a", 0, 1),))), days)

    def test_things_on_the_way_shorten_it(self):
        for day in range(14):
            asked = ((ware("a", 10, coming=((day, 1),)),), (("a", 0, 1),))
            self.assertEqual(self.right(asked), min(day, 10))
            asked = ((ware("a", 10, coming=((day, 1),)),), (("a", 0, 2),))
            self.assertEqual(self.right(asked), 10)

    def test_the_latest_want_decides(self):
        asked = shop(["a 9", "b 20"], [("a", 3, 1), ("b", 18, 1), ("a", 8, 1)])
        self.assertEqual(self.right(asked), 6)
        self.assertEqual(self.right((asked[0], asked[1] + (("b", 13, 1),))), 7)

    def test_floors_that_cannot_be_kept(self):
        for wants in ((), (("a", 0, 1),), (("a", 400, 0),), (("a", 400, 9),)):
            for wares in ((ware("a", 1, 1, 1),), (ware("a", 30, 9, 5, 4),), (ware("a", 1, 1, 1, 0, ((1, 9),)),),
                          (ware("a", 0, 1, 1, parts=(("b", 1),)), ware("b", 1)),
                          (ware("a", 0, 1, 3, parts=(("b", 2),)), ware("b", 1, stock=5)),
                          (ware("a", 0, 1, 3, parts=(("b", 2),)), ware("b", 1, floor=1, stock=6)),
                          (ware("a"), ware("b", 2, 1, BIG, BIG - 1))):
                self.assertIsNone(late((wares, wants)), (wares, wants))
        self.assertIsNone(self.right(((ware("a", 1, 1, 1, 0, ((1, 9),)),), (("a", 0, 1),))))

    def test_floors_that_can_be_kept(self):
        for wares in ((ware("a", 1, 1, 1, 1),), (ware("a", 0, 9, 5),), (ware("a", 1, 1, 1, 0, ((0, 1),)),),
                      (ware("a", 0, 1, 3, parts=(("b", 2),)), ware("b", 1, stock=6)),
                      (ware("a", 0, 1, 3, parts=(("b", 2),)), ware("b", 1, floor=1, stock=7))):
            self.assertEqual(late((wares, ())), 0)
            self.assertEqual(late((wares, (("a", 400, 9),))), 0)
            self.assertIsNotNone(self.right((wares, (("a", 0, 9),))))

    def test_lots_for_a_floor_stay_on_day_0(self):
        wares = (ware("b", 4, stock=5), ware("a", 0, 1, 5, parts=(("b", 1),)))
        self.assertEqual(self.right((wares, (("b", 0, 0),))), 0)
        self.assertEqual(self.right((wares, (("b", 0, 3),))), 4)
        self.assertEqual(self.right((wares, (("a", 1, 3),))), 3)

    def test_a_floor_is_not_taken_for_wants(self):
        self.assertEqual(self.right(((ware("a", 6, 1, 4, 4),), (("a", 0, 1),))), 6)
        self.assertEqual(self.right(((ware("a", 6, 1, 4, 5),), (("a", 0, 1),))), 0)

    def test_great_numbers(self):
        asked = ((ware("a", 3, 1, BIG, BIG, ((2, BIG),), (("b", BIG),)), ware("b", 5, BIG)), (("a", 0, BIG),))
        self.assertEqual(self.right(asked), 2)
        self.assertEqual(self.right((asked[0], (("a", 0, BIG + 1),))), 8)

    def test_many_shops(self):
        found = {"none": 0, "in time": 0, "late": 0}
        for asked in full_shops(300, 151):
            told = self.right(asked)
            found["none" if told is None else "late" if told else "in time"] += 1
        for asked in full_shops(250, 152, count=8, last=3, lag=9):
            told = self.right(asked)
            found["none" if told is None else "late" if told else "in time"] += 1
        for asked in random_shops(30, 153, True):
            self.right(asked)
        self.assertTrue(all(count > 50 for count in found.values()), found)

    def test_no_plan_at_all_keeps_a_small_shop_put_off_by_less(self):
        looked = 0
        for asked in full_shops(400, 154, count=3, last=1, lag=2, amount=3):
            told = late(asked)
            if told is None:
                looked += 1
                for days in range(3):
                    self.assertEqual(list(plain.keeping_plans(put_off(asked, days), 2)), [], asked)
            elif told:
                looked += 1
                self.assertEqual(list(plain.keeping_plans(put_off(asked, told - 1), 2)), [], asked)
        self.assertGreater(looked, 60)


class WithWant(unittest.TestCase):
    def test_the_last_one(self):
        self.assertEqual(with_want(TABLE, "leg", 7, 3), (TABLE[0], TABLE[1] + (("leg", 7, 3),)))
        self.assertEqual(with_want((TABLE[0], ()), "leg", 0, 0), (TABLE[0], (("leg", 0, 0),)))
        self.assertEqual(with_want(TABLE, "table", 2, BIG), (TABLE[0], TABLE[1] + (("table", 2, BIG),)))
        self.assertIs(is_shop(with_want(TABLE, "leg", 400, 3)), True)

    def test_the_twenty_first(self):
        asked = with_want(TWENTY, "table", 6, 2)
        self.assertEqual(asked, (TABLE[0], TWENTY[1] + (("table", 6, 2),)))
        self.assertEqual(len(asked[1]), 21)
        self.assertIs(is_shop(TWENTY), True)
        self.assertIs(is_shop(asked), False)

    def test_what_takes_a_shop_takes_twenty_one_wants(self):
        asked = with_want(TWENTY, "table", 5, 2)
        few = (TABLE[0], TWENTY[1][18:] + (("table", 5, 2),))
        plan = {"table": [0, 0, 0, 0, 0, 1], "leg": [0] * 6, "top": [0] * 6}
        self.assertEqual(days_of(asked), 6)
        self.assertEqual(planned(asked), ("plan", plan))
        self.assertEqual(judged(asked, plan), ("good",))
        for call in (begun, needs, stocks):
            for name in plan:
                self.assertEqual(call(asked, plan, name), call(few, plan, name))
        for call in (explode, late, levels, ring, times, worked):
            self.assertEqual(call(asked), call(few))
        self.assertEqual(ware_of(asked, "leg"), TABLE[0][0])
        self.assertEqual(most(asked, "top", 3), ("most", 1))
        self.assertEqual(put_off(asked, 3)[1][20], ("table", 8, 2))
        self.assertEqual(len(with_want(asked, "leg", 1, 1)[1]), 22)

    def test_no_name(self):
        for name in ("legs", "le", "a", "nobody"):
            with self.subTest(name=name), self.assertRaises(NoName):
                with_want(TABLE, name, 1, 1)


class Most(unittest.TestCase):
    def right(self, asked, name, day):
        told = most(asked, name, day)
        where = (asked, name, day, told)
        self.assertIs(told.__class__, tuple)
        if told == ("none",):
            self.assertFalse(tells_plan(asked), where)
            return "none"
        self.assertTrue(tells_plan(asked), where)
        if told == ("any",):
            for amount in (0, 1, 77, BIG, 10 ** 60 - 1):
                self.assertTrue(tells_plan(with_want(asked, name, day, amount)), where)
            return "any"
        sort, amount = told
        self.assertEqual(sort, "most", where)
        self.assertIs(amount.__class__, int)
        self.assertGreaterEqual(amount, 0)
        self.assertTrue(tells_plan(with_want(asked, name, day, amount)), where)
        self.assertFalse(tells_plan(with_want(asked, name, day, amount + 1)), where)
        return "most" if amount else "nothing"

    def test_a_bought_ware(self):
        asked = ((ware("a", 3, 7, 2, 6, ((1, 5), (9, 100))),), (("a", 2, 4),))
        for day, told in ((0, ("most", 4)), (1, ("most", 5)), (2, ("most", 5)), (3, ("any",)), (4, ("any",)),
                          (400, ("any",))):
            self.assertEqual(most(asked, "a", day), told)

    def test_what_later_wants_take_is_left(self):
        asked = ((ware("a", 10, stock=5),), (("a", 5, 3),))
        self.assertEqual(most(asked, "a", 2), ("most", 2))
        self.assertEqual(most(asked, "a", 9), ("most", 2))
        self.assertEqual(most((asked[0], (("a", 10, 3),)), "a", 2), ("most", 5))
        self.assertEqual(most((asked[0], (("a", 5, 5),)), "a", 2), ("most", 0))

    def test_things_on_the_way_later_can_stand_for_stock(self):
        asked = ((ware("a", 10, stock=5, coming=((4, 2),)),), (("a", 5, 3),))
        self.assertEqual(most(asked, "a", 2), ("most", 4))
        self.assertEqual(most(asked, "a", 4), ("most", 4))

    def test_a_made_ware(self):
        wares = (ware("part", 5, 1, 1, 8), ware("made", 1, 2, 0, 1, (), (("part", 3),)))
        # Two lots of two out of six parts, and the one that is there.
        for day, told in ((0, ("most", 1)), (1, ("most", 5)), (5, ("most", 5)), (6, ("any",)), (7, ("any",))):
            self.assertEqual(most((wares, ()), "made", day), told)
        for day, told in ((0, ("most", 7)), (4, ("most", 7)), (5, ("any",))):
            self.assertEqual(most((wares, ()), "part", day), told)
        self.assertEqual(most((wares, (("made", 1, 3),)), "part", 0), ("most", 4))

    def test_the_longest_of_the_parts_decides(self):
        wares = (ware("slow", 9), ware("quick", 1), ware("a", 2, parts=(("quick", 1), ("slow", 1))), ware("b", 0))
        for day in range(14):
            self.assertEqual(most((wares, ()), "a", day), ("any",) if day >= 11 else ("most", 0))
            self.assertEqual(most((wares, ()), "b", day), ("any",))

    def test_none(self):
        for asked in (shop(["a 2", "b"], [("a", 1, 1)]), ((ware("a", 1, 1, 1), ware("b")), ())):
            for name in "ab":
                for day in (0, 1, 2, 400):
                    self.assertEqual(most(asked, name, day), ("none",))

    def test_chains_of_lags_of_thirty(self):
        asked = shop(chain(LETTERS[:12], 30)[::-1])
        for place, name in enumerate(LETTERS[:12]):
            limit = 360 - 30 * place
            for day in (0, limit - 1, limit, limit + 1):
                self.assertEqual(most(asked, name, day), ("any",) if day >= limit else ("most", 0))

    def test_a_day_behind_the_days_of_the_shop(self):
        wares = (ware("a", 30, 1, 3, 10, ((20, 6),)),)
        for day, amount in ((0, 7), (19, 7), (20, 13), (29, 13)):
            self.assertEqual(most((wares, ()), "a", day), ("most", amount))
        self.assertEqual(most((wares, ()), "a", 30), ("any",))

    def test_great_numbers(self):
        asked = ((ware("b", 30, stock=BIG * BIG), ware("a", 1, 10 ** 50, 1, 3, (), (("b", 7),))), ())
        amount = BIG * BIG // 7 * 10 ** 50 + 2
        self.assertEqual(most(asked, "a", 1), ("most", amount))
        self.assertEqual(most(asked, "a", 30), ("most", amount))
        self.assertEqual(most(asked, "b", 29), ("most", BIG * BIG))
        self.assertEqual(most((asked[0], (("b", 0, BIG * BIG),)), "a", 1), ("most", 2))

    def test_every_small_amount(self):
        for stock in range(20):
            asked = ((ware("a", 1, stock=stock),), ())
            self.assertEqual(most(asked, "a", 0), ("most", stock))

    def test_the_twenty_first_want(self):
        self.assertEqual(most(TWENTY, "top", 4), ("most", 2))
        self.assertEqual(most(TWENTY, "top", 5), ("any",))
        self.assertEqual(self.right(TWENTY, "table", 2), "most")

    def test_no_name(self):
        short = (TABLE[0], (("table", 0, 50),))
        for asked in (TABLE, (TABLE[0], ()), TWENTY, short):
            for name in ("legs", "le", "a", "nobody"):
                for day in (0, 3, 400):
                    with self.subTest(name=name, day=day), self.assertRaises(NoName):
                        most(asked, name, day)

    def test_many_shops(self):
        found = {"none": 0, "any": 0, "most": 0, "nothing": 0}
        for asked in full_shops(120, 161):
            for entry in asked[0]:
                for day in (0, 2, time(asked, entry[0]) - 1, time(asked, entry[0]), 15):
                    found[self.right(asked, entry[0], max(0, day))] += 1
        for asked in full_shops(15, 162, amount=BIG):
            entry = asked[0][0]
            for day in (1, 4, 9):
                found[self.right(asked, entry[0], day)] += 1
        self.assertTrue(all(count > 50 for count in found.values()), found)


class Refused(unittest.TestCase):
    def test_rings(self):
        for rows in RINGS:
            for wants in ([], [(rows[0].split()[0], 1, 1)]):
                asked = shop(rows, wants)
                calls = [lambda: late(asked), lambda: put_off(asked, 0), lambda: put_off(asked, 3)]
                for name in [entry[0] for entry in asked[0]] + ["nobody"]:
                    calls.append(lambda name=name: with_want(asked, name, 1, 1))
                    calls.append(lambda name=name: most(asked, name, 1))
                    calls.append(lambda name=name: most(asked, name, 400))
                for place, call in enumerate(calls):
                    with self.subTest(rows=rows, place=place), self.assertRaises(Ring):
                        call()

    def test_a_ring_goes_ahead_of_a_floor_that_cannot_be_kept(self):
        asked = ((ware("low", 1, 1, 1), ware("a", parts=(("a", 1),))), ())
        for call in (lambda: late(asked), lambda: most(asked, "low", 1)):
            with self.assertRaises(Ring):
                call()


class Own(unittest.TestCase):
    def test_what_is_handed_in_stays_and_the_same_is_told_again(self):
        former = copy.deepcopy((TABLE, TWENTY))
        calls = []
        for asked in (TABLE, TWENTY):
            calls += [lambda asked=asked: put_off(asked, 4), lambda asked=asked: late(asked),
                      lambda asked=asked: with_want(asked, "leg", 3, 2), lambda asked=asked: most(asked, "top", 3),
                      lambda asked=asked: most(asked, "top", 9)]
        for place, call in enumerate(calls):
            with self.subTest(place=place):
                first = copy.deepcopy(call())
                for turn in range(2):
                    told = call()
                    self.assertEqual(told, first)
                    if isinstance(told, tuple):
                        changed(told)
                    self.assertEqual((TABLE, TWENTY), former)

    def test_one_answer_has_no_bearing_on_another(self):
        other = shop(["leg 7", "top 2 leg"], [("top", 3, 1)])
        for turn in range(2):
            self.assertEqual((late(TABLE), late(other)), (0, 6))
            self.assertEqual((most(TABLE, "leg", 9), most(other, "leg", 9)), (("any",), ("none",)))
            self.assertEqual(planned(other)[0], "short")
            self.assertEqual(planned(put_off(other, 6))[0], "plan")


if __name__ == "__main__":
    unittest.main()
