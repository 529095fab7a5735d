"""Points 10 to 13: days, begun lots, needs, stocks, plans judged, the least plan; points 2, 3 and 6 of them."""

import copy
import itertools
import random
import unittest

import plain
from needplan.errors import Ring
from needplan.order import worked
from needplan.plans import begun, days_of, judged, needs, planned, stocks
from samples import BIG, LETTERS, RINGS, chain, changed, full_shops, random_shops, shop, ware

# A bench is made in two days of legs and boards, a leg in one day of boards; boards are bought, six days long.
BENCH = ((ware("board", 6, 10, 3, 20, ((1, 5), (2, 7), (9, 100))),
          ware("bench", 2, 1, 0, 1, (), (("leg", 4), ("board", 2))),
          ware("leg", 1, 3, 2, 6, ((4, 2),), (("board", 1),))),
         (("bench", 3, 2), ("leg", 2, 1), ("bench", 6, 1), ("bench", 3, 0), ("board", 6, 4), ("leg", 2, 1)))
BENCH_PLAN = {"bench": [0, 0, 0, 1, 0, 0, 1], "leg": [0, 0, 1, 0, 1, 0, 0], "board": [0, 0, 0, 0, 0, 0, 0]}


def random_plan(source, asked, most):
    """Some lots on some days, often none of them early."""
    plan = {}
    for entry in asked[0]:
        first = source.choice((0, entry[1], entry[1]))
        plan[entry[0]] = [source.choice((0, 0, source.randint(0, most))) if day >= first else 0
                          for day in range(plain.days(asked))]
    return plan


class Days(unittest.TestCase):
    def test_days(self):
        self.assertEqual(days_of(BENCH), 7)
        for wants, days in (((), 1), ((("a", 0, 5),), 1), ((("a", 1, 5),), 2), ((("a", 400, 1),), 401),
                            ((("a", 3, 1), ("a", 9, 1), ("a", 5, 1)), 10), ((("a", 9, 1), ("b", 3, 1)), 10)):
            self.assertEqual(days_of((shop(["a", "b"])[0], wants)), days)

    def test_a_want_of_nothing_has_its_day(self):
        self.assertEqual(days_of(shop(["a"], [("a", 3, 1), ("a", 7, 0)])), 8)

    def test_coming_and_lags_have_no_bearing(self):
        self.assertEqual(days_of(((ware("a", 30, coming=((50, 1),)),), (("a", 2, 1),))), 3)
        self.assertEqual(days_of(((ware("a", 30, coming=((50, 1),)),), ())), 1)

    def test_beyond_the_bounds(self):
        self.assertEqual(days_of(shop(["a"], [("a", 760, 1)] * 21)), 761)


class Rows(unittest.TestCase):
    def right(self, asked, plan):
        former = copy.deepcopy((asked, plan))
        for name in plan:
            for call, told in ((begun, plain.begun), (needs, plain.needs), (stocks, plain.stocks)):
                row = call(asked, plan, name)
                self.assertEqual(row, told(asked, plan, name), (call.__name__, asked, plan, name))
                self.assertIs(row.__class__, list)
        self.assertEqual((asked, plan), former)

    def test_benches(self):
        for name, row in (("bench", [0, 1, 0, 0, 1, 0, 0]), ("leg", [0, 1, 0, 1, 0, 0, 0]),
                          ("board", [0, 0, 0, 0, 0, 0, 0])):
            self.assertEqual(begun(BENCH, BENCH_PLAN, name), row)
        for name, row in (("bench", [0, 0, 0, 2, 0, 0, 1]), ("leg", [0, 4, 2, 0, 4, 0, 0]),
                          ("board", [0, 3, 0, 1, 2, 0, 4])):
            self.assertEqual(needs(BENCH, BENCH_PLAN, name), row)
        for name, row in (("bench", [1, 1, 1, 0, 0, 0, 0]), ("leg", [6, 2, 3, 3, 4, 4, 4]),
                          ("board", [20, 22, 29, 28, 26, 26, 22])):
            self.assertEqual(stocks(BENCH, BENCH_PLAN, name), row)
        self.right(BENCH, BENCH_PLAN)

    def test_lots_of_no_lag_take_their_parts_on_the_day_they_come(self):
        asked = ((ware("a", 0, 2, parts=(("b", 3),)), ware("b", stock=9)), (("a", 2, 4),))
        plan = {"a": [1, 0, 2], "b": [0, 5, 0]}
        self.assertEqual(begun(asked, plan, "a"), [1, 0, 2])
        self.assertEqual(needs(asked, plan, "b"), [3, 0, 6])
        self.assertEqual(stocks(asked, plan, "a"), [2, 2, 2])
        self.assertEqual(stocks(asked, plan, "b"), [6, 11, 5])

    def test_what_would_be_begun_ahead_of_day_0_is_in_no_row(self):
        for lag, row in ((0, [1, 2, 3, 4]), (1, [2, 3, 4, 0]), (2, [3, 4, 0, 0]), (3, [4, 0, 0, 0]),
                         (4, [0, 0, 0, 0]), (5, [0, 0, 0, 0]), (30, [0, 0, 0, 0])):
            asked = ((ware("a", lag, 5, parts=(("b", 2),)), ware("b", stock=100)), (("a", 3, 1),))
            plan = {"a": [1, 2, 3, 4], "b": [0, 0, 0, 0]}
            self.assertEqual(begun(asked, plan, "a"), row)
            self.assertEqual(needs(asked, plan, "b"), [2 * lots for lots in row])
            # They come all the same.
            self.assertEqual(stocks(asked, plan, "a"), [5, 15, 30, 49])
            self.right(asked, plan)

    def test_stocks_below_nothing(self):
        asked = shop(["a 1 b", "b"], [("a", 0, 3), ("a", 1, 2)])
        plan = {"a": [0, 2], "b": [0, 1]}
        self.assertEqual(stocks(asked, plan, "a"), [-3, -3])
        self.assertEqual(stocks(asked, plan, "b"), [-2, -1])

    def test_what_is_on_the_way(self):
        coming = ((2, 5), (0, 1), (3, 100), (2, 6), (400, 1000), (1, 0))
        asked = ((ware("a", stock=10, coming=coming),), (("a", 2, 1),))
        self.assertEqual(stocks(asked, {"a": [0, 0, 0]}, "a"), [11, 11, 21])
        self.assertEqual(stocks((asked[0], ()), {"a": [2]}, "a"), [13])
        self.assertEqual(stocks((asked[0], (("a", 3, 1),)), {"a": [0] * 4}, "a"), [11, 11, 22, 121])

    def test_several_wants_on_one_day(self):
        asked = shop(["a", "b"], [("a", 1, 2), ("b", 1, 50), ("a", 1, 3), ("a", 0, 7), ("a", 1, 0), ("a", 1, 4)])
        plan = {"a": [0, 0], "b": [0, 0]}
        self.assertEqual(needs(asked, plan, "a"), [7, 9])
        self.assertEqual(needs(asked, plan, "b"), [0, 50])

    def test_a_part_of_several_wares(self):
        asked = ((ware("d"), ware("a", 1, parts=(("d", 2), ("b", 1))), ware("b", 0, parts=(("d", 3),)),
                  ware("c", 2, parts=(("b", 4), ("d", 5)))), (("d", 3, 1000),))
        plan = {"a": [0, 10, 0, 20], "b": [1, 0, 2, 0], "c": [0, 0, 30, 40], "d": [0, 0, 0, 7]}
        self.assertEqual(needs(asked, plan, "d"), [20 + 3 + 150, 200, 40 + 6, 1000])
        self.assertEqual(needs(asked, plan, "b"), [10 + 120, 160, 20, 0])
        self.assertEqual(needs(asked, plan, "a"), [0, 0, 0, 0])
        self.right(asked, plan)

    def test_a_floor_is_no_need(self):
        asked = ((ware("a", floor=5, stock=9),), (("a", 1, 2),))
        self.assertEqual(needs(asked, {"a": [0, 0]}, "a"), [0, 2])
        self.assertEqual(stocks(asked, {"a": [0, 0]}, "a"), [9, 7])

    def test_great_numbers(self):
        asked = ((ware("a", 1, BIG, 0, BIG, (), (("b", BIG),)), ware("b", stock=BIG)), (("a", 1, BIG),))
        plan = {"a": [0, BIG], "b": [0, 0]}
        self.assertEqual(stocks(asked, plan, "a"), [BIG, BIG * BIG])
        self.assertEqual(stocks(asked, plan, "b"), [BIG - BIG * BIG, BIG - BIG * BIG])

    def test_many_plans(self):
        source = random.Random(101)
        for asked in full_shops(150, 102):
            self.right(asked, random_plan(source, asked, 4))
        for asked in full_shops(10, 103, count=12, last=60, lag=30, amount=BIG):
            self.right(asked, random_plan(source, asked, BIG))


class Judged(unittest.TestCase):
    def test_good(self):
        self.assertEqual(judged(BENCH, BENCH_PLAN), ("good",))
        self.assertEqual(judged(shop(["a"]), {"a": [0]}), ("good",))
        self.assertEqual(judged(shop(["a"]), {"a": [7]}), ("good",))

    def test_early(self):
        for lag in range(5):
            asked = ((ware("a", lag),), (("a", 3, 0),))
            for day in range(4):
                plan = {"a": [1 if place >= day else 0 for place in range(4)]}
                self.assertEqual(judged(asked, plan), ("early", "a", day) if day < lag else ("good",))
        self.assertEqual(judged(((ware("a", 30),), ()), {"a": [1]}), ("early", "a", 0))

    def test_below(self):
        for floor in range(4):
            asked = ((ware("a", floor=floor, stock=3),), (("a", 1, 1), ("a", 2, 1)))
            for lots in ([0, 0, 0], [0, 0, 1], [0, 1, 0]):
                left = [3, 2 + lots[1], 1 + lots[1] + lots[2]]
                found = [("below", "a", day) for day in range(3) if left[day] < floor] + [("good",)]
                self.assertEqual(judged(asked, {"a": lots}), found[0])

    def test_early_goes_ahead_of_below_at_one_day(self):
        asked = ((ware("a", 2, 1, 5),), (("a", 2, 0),))
        self.assertEqual(judged(asked, {"a": [1, 0, 0]}), ("early", "a", 0))
        self.assertEqual(judged(asked, {"a": [0, 1, 0]}), ("below", "a", 0))
        asked = ((ware("a", 2, 1, 5, 5),), (("a", 1, 3), ("a", 2, 0)))
        self.assertEqual(judged(asked, {"a": [0, 1, 0]}), ("early", "a", 1))
        self.assertEqual(judged(asked, {"a": [0, 3, 0]}), ("early", "a", 1))
        self.assertEqual(judged(asked, {"a": [0, 0, 3]}), ("below", "a", 1))

    def test_an_earlier_day_goes_ahead(self):
        asked = ((ware("a", 3, 1, 0, 2),), (("a", 1, 4), ("a", 3, 0)))
        self.assertEqual(judged(asked, {"a": [0, 0, 1, 0]}), ("below", "a", 1))
        self.assertEqual(judged(asked, {"a": [1, 0, 0, 0]}), ("early", "a", 0))

    def test_by_the_worked_order(self):
        rows = ["c 2", "b 2 c", "a 2 b", "d 2"]
        asked = shop(rows, [("a", 2, 0)])
        plan = {name: [0, 0, 0] for name in "abcd"}
        found = []
        for name in "cbda":
            # Each fault is on an earlier day than those found ahead of it, so the day decides nothing.
            plan[name][max(0, 1 - len(found))] = 1
            found.append(judged(asked, plan))
        self.assertEqual(found, [("early", "c", 1), ("early", "b", 0), ("early", "d", 0), ("early", "a", 0)])

    def test_a_ware_ahead_goes_ahead_on_a_later_day(self):
        asked = shop(["part", "top 1 part"], [("top", 5, 1), ("part", 0, 1)])
        self.assertEqual(judged(asked, {"top": [0] * 6, "part": [0] * 6}), ("below", "top", 5))
        self.assertEqual(judged(asked, {"top": [0] * 5 + [1], "part": [0] * 6}), ("below", "part", 0))
        self.assertEqual(judged(asked, {"top": [0] * 5 + [1], "part": [1] + [0] * 5}), ("below", "part", 4))
        self.assertEqual(judged(asked, {"top": [0] * 5 + [1], "part": [2] + [0] * 5}), ("good",))

    def test_parts_of_early_lots_are_taken_by_none(self):
        asked = shop(["top 1 part", "part"], [("top", 0, 1)])
        self.assertEqual(judged(asked, {"top": [1], "part": [0]}), ("early", "top", 0))

    def test_many_plans(self):
        source = random.Random(121)
        found = {"good": 0, "early": 0, "below": 0}
        for asked in full_shops(250, 122):
            for turn in range(3):
                plan = random_plan(source, asked, 9)
                former = copy.deepcopy((asked, plan))
                told = judged(asked, plan)
                self.assertEqual(told, plain.judged(asked, plan), former)
                self.assertEqual((asked, plan), former)
                self.assertIs(told.__class__, tuple)
                found[told[0]] += 1
        self.assertTrue(all(count > 50 for count in found.values()), found)


class Planned(unittest.TestCase):
    def right(self, asked):
        former = copy.deepcopy(asked)
        told = planned(asked)
        self.assertEqual(told, plain.planned(asked), asked)
        self.assertIs(told.__class__, tuple)
        self.assertEqual(asked, former)
        if told[0] == "plan":
            self.assertEqual(sorted(told[1]), sorted(entry[0] for entry in asked[0]))
            self.assertEqual(judged(asked, told[1]), ("good",), asked)
            self.assertEqual(plain.judged(asked, told[1]), ("good",), asked)
        else:
            order = worked(asked)
            self.assertEqual(sorted(told[1]), sorted(order[:order.index(told[2])]), asked)
        return told[0]

    def test_benches(self):
        self.assertEqual(planned(BENCH), ("plan", BENCH_PLAN))
        self.assertEqual(self.right(BENCH), "plan")

    def test_benches_short_of_boards(self):
        asked = (BENCH[0], BENCH[1] + (("board", 5, 24),))
        rows = {"bench": BENCH_PLAN["bench"], "leg": BENCH_PLAN["leg"]}
        self.assertEqual(planned(asked), ("short", rows, "board", 5, 1))
        asked = (BENCH[0], BENCH[1] + (("board", 5, 34), ("board", 4, 11)))
        self.assertEqual(planned(asked), ("short", rows, "board", 5, 3))
        asked = (BENCH[0], BENCH[1] + (("board", 6, 200),))
        self.assertEqual(planned(asked), ("plan", {**rows, "board": [0] * 6 + [19]}))

    def test_benches_short_of_benches(self):
        asked = (BENCH[0], BENCH[1] + (("bench", 1, 6), ("board", 0, 1000)))
        self.assertEqual(planned(asked), ("short", {}, "bench", 1, 5))

    def test_no_wants(self):
        self.assertEqual(planned(shop(["a 3 b", "b 9"])), ("plan", {"a": [0], "b": [0]}))
        self.assertEqual(planned(((ware("a", 1, 1, 4, 4),), ())), ("plan", {"a": [0]}))

    def test_floors_are_kept_from_day_0_on(self):
        self.assertEqual(planned(((ware("a", 0, 3, 4),), ())), ("plan", {"a": [2]}))
        self.assertEqual(planned(((ware("a", 1, 3, 4),), ())), ("short", {}, "a", 0, 2))
        self.assertEqual(planned(((ware("a", 1, 3, 4, 3),), (("a", 9, 9),))), ("short", {}, "a", 0, 1))
        self.assertEqual(planned(((ware("a", 1, 3, 4, 3, ((0, 1),)),), ())), ("plan", {"a": [0]}))
        self.assertEqual(planned(((ware("a", 1, 3, 4, 3, ((1, 1),)),), ())), ("short", {}, "a", 0, 1))

    def test_lots_for_a_floor_take_their_parts(self):
        wares = (ware("b", 0, 2), ware("a", 0, 1, 3, 1, (), (("b", 5),)))
        self.assertEqual(planned((wares, (("a", 1, 0),))), ("plan", {"a": [2, 0], "b": [5, 0]}))

    def test_lots_come_on_the_day_of_the_lag(self):
        for day in range(6):
            asked = ((ware("a", 3, 2, 0, 1),), (("a", day, 4),))
            row = [0] * day + [2]
            self.assertEqual(planned(asked), ("plan", {"a": row}) if day >= 3 else ("short", {}, "a", day, 2))

    def test_the_first_ware_in_the_worked_order_is_told(self):
        asked = shop(["c 9", "b 9 c", "x 9", "a 9 b"], [("c", 0, 1), ("b", 1, 1), ("a", 9, 1), ("x", 8, 3)])
        self.assertEqual(planned(asked), ("short", {}, "x", 8, 3))
        self.assertEqual(planned((asked[0], asked[1][:3])),
                         ("short", {"x": [0] * 10, "a": [0] * 9 + [1]}, "b", 0, 1))

    def test_the_first_day_is_told_with_its_lots(self):
        asked = ((ware("a", 5, 2, 1, 6),), (("a", 1, 3), ("a", 2, 9), ("a", 4, 11), ("a", 5, 99)))
        self.assertEqual(planned(asked), ("short", {}, "a", 2, 4))

    def test_days_fewer_than_the_lag(self):
        self.assertEqual(planned(((ware("a", 30, stock=1),), (("a", 2, 1),))), ("plan", {"a": [0, 0, 0]}))
        self.assertEqual(planned(((ware("a", 30, stock=1),), (("a", 2, 2),))), ("short", {}, "a", 2, 1))

    def test_a_part_is_needed_when_its_lots_are_begun(self):
        asked = ((ware("a", 4, parts=(("b", 3),)), ware("b", 2)), (("a", 6, 5),))
        self.assertEqual(planned(asked), ("plan", {"a": [0] * 6 + [5], "b": [0, 0, 15, 0, 0, 0, 0]}))
        asked = (asked[0], (("a", 5, 5),))
        self.assertEqual(planned(asked), ("short", {"a": [0] * 5 + [5]}, "b", 1, 15))

    def test_chains_of_twelve(self):
        rows = chain(LETTERS[:12], 30)
        for order in (rows, rows[::-1], rows[::2] + rows[1::2]):
            told = planned(shop(order, [("a", 360, 2)]))
            self.assertEqual(told[0], "plan")
            for place, name in enumerate(LETTERS[:12]):
                self.assertEqual([(day, lots) for day, lots in enumerate(told[1][name]) if lots],
                                 [(360 - 30 * place, 2)])
            told = planned(shop(order, [("a", 359, 2)]))
            self.assertEqual((told[0],) + told[2:], ("short", "l", 29, 2))
            self.assertEqual(sorted(told[1]), list(LETTERS[:11]))

    def test_great_numbers(self):
        asked = ((ware("b", 1, BIG), ware("a", 1, 7, BIG, BIG, (), (("b", BIG),))), (("a", 2, BIG),))
        lots = -(-BIG // 7)
        self.assertEqual(planned(asked), ("plan", {"a": [0, 0, lots], "b": [0, lots, 0]}))
        self.assertEqual(planned((asked[0], (("a", 0, BIG),))), ("short", {}, "a", 0, lots))

    def test_beyond_the_bounds(self):
        asked = shop(chain(LETTERS, 31), [("a", 806, 1)] * 21)
        told = planned(asked)
        self.assertEqual((told[0], told[1]["a"][806], told[1]["z"][31]), ("plan", 21, 21))
        self.assertEqual(judged(asked, told[1]), ("good",))
        told = planned((asked[0], asked[1] + (("a", 805, 1),)))
        self.assertEqual((told[0],) + told[2:], ("short", "z", 30, 1))

    def test_many_shops(self):
        found = {"plan": 0, "short": 0}
        for asked in full_shops(400, 131):
            found[self.right(asked)] += 1
        for asked in full_shops(60, 132, lag=1, last=20):
            found[self.right(asked)] += 1
        for asked in full_shops(40, 133, amount=BIG):
            found[self.right(asked)] += 1
        for asked in random_shops(50, 134, True):
            self.right(asked)
        self.assertTrue(all(count > 100 for count in found.values()), found)

    def test_every_plan_that_keeps_a_small_shop(self):
        """Point 3: by each day no plan that keeps the shop has fewer lots; where it is short there is none."""
        found = {"plan": 0, "short": 0}
        walked = with_lots = 0
        for asked, cap in itertools.chain(zip(full_shops(600, 135, count=3, last=2, lag=2, amount=3), [2] * 600),
                                          zip(full_shops(200, 136, count=2, last=3, lag=2, amount=4), [3] * 200)):
            told = planned(asked)
            found[told[0]] += 1
            with_lots += told[0] == "plan" and any(any(row) for row in told[1].values())
            least = {name: list(itertools.accumulate(row)) for name, row in told[1].items()}
            for plan in plain.keeping_plans(asked, cap):
                walked += 1
                self.assertEqual(told[0], "plan", (asked, plan))
                for name, row in plan.items():
                    self.assertTrue(all(few <= many for few, many in zip(least[name], itertools.accumulate(row))),
                                    (asked, plan))
                if walked % 50 == 0:
                    self.assertEqual(judged(asked, plan), ("good",), (asked, plan))
        self.assertTrue(all(count > 100 for count in found.values()), found)
        self.assertGreater(with_lots, 100)
        self.assertGreater(walked, 20000)


class Refused(unittest.TestCase):
    def test_rings(self):
        for rows in RINGS:
            for wants in ([], [(rows[0].split()[0], 1, 1)]):
                asked = shop(rows, wants)
                plan = {entry[0]: [0] * (1 + len(wants)) for entry in asked[0]}
                calls = [lambda: days_of(asked), lambda: planned(asked)]
                for handed in (plan, {}):
                    calls.append(lambda handed=handed: judged(asked, handed))
                    for call in (begun, needs, stocks):
                        for name in list(plan) + ["nobody"]:
                            calls.append(lambda call=call, handed=handed, name=name: call(asked, handed, name))
                for place, call in enumerate(calls):
                    with self.subTest(rows=rows, place=place), self.assertRaises(Ring):
                        call()


class Own(unittest.TestCase):
    def test_what_is_told_is_the_askers_own(self):
        short = (BENCH[0], BENCH[1] + (("board", 5, 24),))
        plan = copy.deepcopy(BENCH_PLAN)
        former = copy.deepcopy((BENCH, short, plan))
        calls = [lambda: planned(BENCH), lambda: planned(short), lambda: planned(shop(["a"]))]
        for call in (begun, needs, stocks):
            for name in plan:
                calls.append(lambda call=call, name=name: call(BENCH, plan, name))
        for place, call in enumerate(calls):
            with self.subTest(place=place):
                first = copy.deepcopy(call())
                for turn in range(2):
                    told = call()
                    self.assertEqual(told, first)
                    changed(told)
                    self.assertEqual((BENCH, short, plan), former)

    def test_no_list_is_told_twice(self):
        told = planned(shop(["a", "b", "c"], [("a", 3, 0)]))[1]
        told["a"][0] = 5
        self.assertEqual((told["b"], told["c"]), ([0] * 4, [0] * 4))

    def test_a_plan_changed_behind_the_call(self):
        plan = copy.deepcopy(BENCH_PLAN)
        told = [call(BENCH, plan, name) for call in (begun, needs, stocks) for name in BENCH_PLAN]
        former = copy.deepcopy(told)
        changed(plan)
        self.assertEqual(told, former)
        self.assertEqual([call(BENCH, BENCH_PLAN, name) for call in (begun, needs, stocks) for name in BENCH_PLAN],
                         former)

    def test_a_told_plan_can_be_handed_in(self):
        plan = planned(BENCH)[1]
        plan["leg"][5] += 1
        self.assertEqual(judged(BENCH, plan), ("good",))
        plan["leg"][5] -= 1
        plan["leg"][4] -= 1
        self.assertEqual(judged(BENCH, plan), ("below", "leg", 4))
        self.assertEqual(planned(BENCH), ("plan", BENCH_PLAN))


if __name__ == "__main__":
    unittest.main()
