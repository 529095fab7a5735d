"""Points 17 and 18: pegs and what lots serve; points 2, 3 and 6 of them."""

import copy
import random
import unittest

import plain
from needplan.errors import NoName, Ring
from needplan.order import worked
from needplan.pegs import pegs, serves
from needplan.plans import judged, planned
from needplan.shifts import put_off, with_want
from samples import BIG, LETTERS, RINGS, busy_shops, chain, changed, full_shops, shop, ware

STOCK, FLOOR, LEFT = ("stock",), ("floor",), ("left",)

# A bench is made in two days of legs and boards, a leg in one day of boards; boards are bought, six days long.
BENCH = ((ware("board", 6, 10, 3, 20, ((1, 5), (2, 7), (9, 100))),
          ware("bench", 2, 1, 0, 1, (), (("leg", 4), ("board", 2))),
          ware("leg", 1, 3, 2, 6, ((4, 2),), (("board", 1),))),
         (("bench", 3, 2), ("leg", 2, 1), ("bench", 6, 1), ("bench", 3, 0), ("board", 6, 4), ("leg", 2, 1)))


def lots(day):
    return ("lots", day)


def coming(number):
    return ("coming", number)


def want(number):
    return ("want", number)


def part(name, day):
    return ("part", name, day)


def keeping(many, seed, count=5, last=9, lag=2, amount=7):
    """Shops and plans that keep them, the least ones and others."""
    source = random.Random(seed)
    for asked in [*busy_shops(many, seed, count, last, lag, amount), *full_shops(many, seed, count, last, lag, amount)]:
        found = plain.planned(asked)
        if found[0] == "plan":
            yield asked, found[1]
            loose = plain.loose_plan(asked, source)
            if loose is not None:
                yield asked, loose


def grown(asked, factor):
    """The shop with all amounts so many times as great, but for those of a lot."""
    wares = tuple(ware(name, lag, gives, floor * factor, stock * factor,
                       tuple((day, amount * factor) for day, amount in arrivals), parts)
                  for name, lag, gives, floor, stock, arrivals, parts in asked[0])
    return (wares, tuple((name, day, amount * factor) for name, day, amount in asked[1]))


class Pegs(unittest.TestCase):
    def test_benches(self):
        plan = planned(BENCH)[1]
        self.assertEqual(pegs(BENCH, plan, "bench"), [
            (STOCK, want(0), 1), (lots(3), want(0), 1), (lots(6), want(2), 1)])
        self.assertEqual(pegs(BENCH, plan, "leg"), [
            (STOCK, FLOOR, 2), (STOCK, part("bench", 3), 4),
            (lots(2), want(1), 1), (lots(2), want(5), 1), (lots(2), part("bench", 6), 1),
            (coming(0), part("bench", 6), 2), (lots(4), part("bench", 6), 1), (lots(4), LEFT, 2)])
        self.assertEqual(pegs(BENCH, plan, "board"), [
            (STOCK, FLOOR, 3), (STOCK, part("bench", 3), 2), (STOCK, part("leg", 2), 1), (STOCK, part("leg", 4), 1),
            (STOCK, part("bench", 6), 2), (STOCK, want(4), 4), (STOCK, LEFT, 7),
            (coming(0), LEFT, 5), (coming(1), LEFT, 7)])

    def test_supplies_by_days(self):
        arrivals = ((2, 1), (0, 2), (2, 3), (1, 4), (0, 5), (3, 99), (2, 6), (400, 98), (1, 0))
        asked = ((ware("a", 0, 10, 0, 7, arrivals),), (("a", 2, 1),))
        told = pegs(asked, {"a": [1, 2, 3]}, "a")
        self.assertEqual(told, [
            (STOCK, want(0), 1), (STOCK, LEFT, 6), (coming(1), LEFT, 2), (coming(4), LEFT, 5), (lots(0), LEFT, 10),
            (coming(3), LEFT, 4), (lots(1), LEFT, 20),
            (coming(0), LEFT, 1), (coming(2), LEFT, 3), (coming(6), LEFT, 6), (lots(2), LEFT, 30)])

    def test_what_comes_later_than_the_days_is_none(self):
        for last, found in ((0, [1]), (1, [1]), (2, [1, 2]), (3, [1, 2, 0]), (4, [1, 2, 0])):
            asked = ((ware("a", coming=((3, 1), (0, 2), (2, 3), (5, 4))),), (("a", last, 0),))
            told = pegs(asked, {"a": [0] * (last + 1)}, "a")
            self.assertEqual([supply for supply, need, amount in told], [coming(number) for number in found])
        asked = ((ware("a", coming=((1, 1), (0, 2))),), ())
        self.assertEqual(pegs(asked, {"a": [0]}, "a"), [(coming(1), LEFT, 2)])

    def test_needs_by_days(self):
        wants = [("a", 2, 1), ("a", 0, 2), ("b", 1, 50), ("a", 2, 3), ("a", 1, 0), ("a", 1, 4), ("a", 0, 5)]
        asked = ((ware("b", stock=50), ware("a", floor=6, stock=21)), tuple(wants))
        self.assertEqual(pegs(asked, {"a": [0, 0, 0], "b": [0, 0, 0]}, "a"), [
            (STOCK, FLOOR, 6), (STOCK, want(1), 2), (STOCK, want(6), 5), (STOCK, want(5), 4), (STOCK, want(0), 1),
            (STOCK, want(3), 3)])
        self.assertEqual(pegs(asked, {"a": [0, 0, 0], "b": [0, 0, 0]}, "b"), [(STOCK, want(2), 50)])

    def test_wants_ahead_of_parts(self):
        asked = ((ware("a", parts=(("b", 2),)), ware("b", stock=9)), (("a", 0, 3), ("b", 0, 1), ("b", 0, 2)))
        self.assertEqual(pegs(asked, {"a": [3], "b": [0]}, "b"), [
            (STOCK, want(1), 1), (STOCK, want(2), 2), (STOCK, part("a", 0), 6)])
        # A part taken ahead of the day of a want goes ahead of it.
        asked = ((ware("a", 1, parts=(("b", 2),)), ware("b", stock=9)), (("a", 1, 3), ("b", 1, 1)))
        self.assertEqual(pegs(asked, {"a": [0, 3], "b": [0, 0]}, "b"), [
            (STOCK, part("a", 1), 6), (STOCK, want(1), 1), (STOCK, LEFT, 2)])

    def test_parts_by_the_worked_order(self):
        # They stand in the shop, by the letters and by their lots in other orders.
        asked = shop(["k 0 z", "z", "c 0 k z", "b 0 c z", "n 0 z", "a 0 z"],
                     [("k", 0, 1), ("c", 0, 1), ("b", 0, 1), ("n", 0, 1), ("a", 0, 1)])
        plan = planned(asked)[1]
        self.assertEqual(worked(asked), ["b", "n", "a", "c", "k", "z"])
        self.assertEqual(pegs(asked, plan, "z"), [
            (lots(0), part("b", 0), 1), (lots(0), part("n", 0), 1), (lots(0), part("a", 0), 1),
            (lots(0), part("c", 0), 2), (lots(0), part("k", 0), 3)])

    def test_parts_on_the_day_on_which_lots_are_begun(self):
        asked = ((ware("d", stock=100), ware("a", 3, 9, parts=(("d", 2),)), ware("b", parts=(("d", 3),)),
                  ware("c", 1, parts=(("d", 5),))), (("a", 5, 1), ("d", 3, 7)))
        plan = {"a": [0, 0, 0, 1, 0, 2], "b": [0, 0, 1, 0, 1, 0], "c": [0, 0, 1, 1, 0, 0], "d": [0] * 6}
        self.assertEqual(judged(asked, plan), ("good",))
        self.assertEqual(pegs(asked, plan, "d"), [
            (STOCK, part("a", 3), 2), (STOCK, part("c", 2), 5), (STOCK, part("a", 5), 4), (STOCK, part("b", 2), 3),
            (STOCK, part("c", 3), 5), (STOCK, want(1), 7), (STOCK, part("b", 4), 3), (STOCK, LEFT, 71)])

    def test_nothing_supplied(self):
        self.assertEqual(pegs(shop(["a"]), {"a": [0]}, "a"), [])
        asked = ((ware("a", coming=((0, 0), (3, 0))),), (("a", 3, 0), ("a", 1, 0)))
        self.assertEqual(pegs(asked, {"a": [0] * 4}, "a"), [])

    def test_nothing_left(self):
        asked = ((ware("a", floor=2, stock=3, coming=((1, 4),)),), (("a", 1, 5),))
        self.assertEqual(pegs(asked, {"a": [0, 0]}, "a"), [
            (STOCK, FLOOR, 2), (STOCK, want(0), 1), (coming(0), want(0), 4)])

    def test_all_left(self):
        asked = ((ware("a", stock=3, coming=((0, 1), (0, 1))),), (("a", 1, 0),))
        self.assertEqual(pegs(asked, {"a": [0, 1]}, "a"), [
            (STOCK, LEFT, 3), (coming(0), LEFT, 1), (coming(1), LEFT, 1), (lots(1), LEFT, 1)])

    def test_neighbours_put_together(self):
        # The lots of one day, and of one ware, are one supply and one need.
        asked = ((ware("a", 1, 2, parts=(("b", 3),)), ware("b", 0, 2)), (("a", 1, 9),))
        plan = planned(asked)[1]
        self.assertEqual(plan, {"a": [0, 5], "b": [8, 0]})
        self.assertEqual(pegs(asked, plan, "a"), [(lots(1), want(0), 9), (lots(1), LEFT, 1)])
        self.assertEqual(pegs(asked, plan, "b"), [(lots(0), part("a", 1), 15), (lots(0), LEFT, 1)])

    def test_the_floor_by_several_supplies(self):
        asked = ((ware("a", 0, 5, 20, 4, ((0, 3), (0, 2))),), (("a", 0, 1),))
        self.assertEqual(pegs(asked, {"a": [3]}, "a"), [
            (STOCK, FLOOR, 4), (coming(0), FLOOR, 3), (coming(1), FLOOR, 2), (lots(0), FLOOR, 11),
            (lots(0), want(0), 1), (lots(0), LEFT, 3)])

    def test_great_amounts(self):
        asked = ((ware("a", 1, BIG, 0, 5, ((1, BIG),), (("b", BIG),)), ware("b", stock=BIG * BIG + 1)),
                 (("a", 1, 2 * BIG),))
        plan = planned(asked)[1]
        self.assertEqual(pegs(asked, plan, "a"), [
            (STOCK, want(0), 5), (coming(0), want(0), BIG), (lots(1), want(0), BIG - 5), (lots(1), LEFT, 5)])
        self.assertEqual(pegs(asked, plan, "b"), [(STOCK, part("a", 1), BIG), (STOCK, LEFT, BIG * BIG + 1 - BIG)])

    def test_many_plans(self):
        seen = 0
        for asked, plan in keeping(250, 501):
            for name in plan:
                told = pegs(asked, plan, name)
                self.assertEqual(told, plain.pegs(asked, plan, name), (asked, plan, name))
                seen += len(told)
        self.assertGreater(seen, 2000)

    def test_many_plans_grown(self):
        for asked, plan in keeping(60, 502):
            great, lots_of = grown(asked, BIG), {name: [BIG * count for count in row] for name, row in plan.items()}
            self.assertEqual(judged(great, lots_of), ("good",))
            for name in plan:
                told = [(supply, need, amount * BIG) for supply, need, amount in plain.pegs(asked, plan, name)]
                self.assertEqual(pegs(great, lots_of, name), told, (great, lots_of, name))

    def test_long_shops(self):
        for asked, plan in keeping(12, 503, count=12, last=400, lag=30, amount=4):
            for name in plan:
                self.assertEqual(pegs(asked, plan, name), plain.pegs(asked, plan, name), (asked, plan, name))

    def test_twenty_one_wants_and_days_beyond_400(self):
        asked = put_off(with_want(shop(["a"], [("a", 300, 1)] * 20), "a", 400, 5), 50)
        plan = planned(asked)[1]
        self.assertEqual(pegs(asked, plan, "a"), [(lots(350), want(number), 1) for number in range(20)]
                         + [(lots(450), want(20), 5)])
        self.assertEqual(serves(asked, plan, "a", 450), [20])
        self.assertEqual(serves(asked, plan, "a", 350), list(range(20)))

    def test_kinds(self):
        told = pegs(BENCH, planned(BENCH)[1], "leg")
        self.assertIs(told.__class__, list)
        for peg in told:
            self.assertIs(peg.__class__, tuple)
            self.assertEqual([member.__class__ for member in peg], [tuple, tuple, int])


class Promise(unittest.TestCase):
    """Point 3 of pegs."""

    def needs_in_full(self, asked, plan, name):
        days = {label: key[0] for key, label, amount in plain.demands(asked, plan, name)}
        there_by = {label: key[0] for key, label, amount in plain.supplies(asked, plan, name)}
        pegged = {}
        for supply, need, amount in pegs(asked, plan, name):
            self.assertGreater(amount, 0)
            pegged[need] = pegged.get(need, 0) + amount
            if need not in (FLOOR, LEFT):
                self.assertLessEqual(there_by[supply], days[need], (asked, plan, name))
            if need == FLOOR:
                self.assertEqual(there_by[supply], 0, (asked, plan, name))
        for key, label, amount in plain.demands(asked, plan, name):
            self.assertEqual(pegged.get(label, 0), amount, (asked, plan, name, label))

    def lots_for_their_own_day(self, asked, plan, name):
        """Each lot by itself, of those that come on one day."""
        gives = plain.entry_of(asked, name)[2]
        days = {label: key[0] for key, label, amount in plain.demands(asked, plan, name)}
        for day, count in enumerate(plan[name]):
            things = []
            for supply, need, amount in pegs(asked, plan, name):
                if supply == lots(day):
                    things.extend([need] * amount)
            self.assertEqual(len(things), count * gives)
            for lot in range(count):
                found = things[lot * gives:(lot + 1) * gives]
                self.assertTrue(any(need == FLOOR or days.get(need) == day for need in found), (asked, name, day))

    def test_each_need_in_full_by_its_day(self):
        for asked, plan in keeping(150, 504):
            for name in plan:
                self.needs_in_full(asked, plan, name)

    def test_each_lot_for_its_own_day(self):
        seen = 0
        for asked in busy_shops(250, 505):
            found = planned(asked)
            if found[0] == "plan":
                for name in found[1]:
                    self.needs_in_full(asked, found[1], name)
                    self.lots_for_their_own_day(asked, found[1], name)
                    seen += sum(found[1][name])
        self.assertGreater(seen, 1000)


class Serves(unittest.TestCase):
    def test_benches(self):
        plan = planned(BENCH)[1]
        found = {("bench", 3): [0], ("bench", 6): [2], ("leg", 2): [1, 2, 5], ("leg", 4): [2]}
        for name in plan:
            for day in range(12):
                self.assertEqual(serves(BENCH, plan, name, day), found.get((name, day), []), (name, day))

    def test_several_levels(self):
        asked = shop(chain(LETTERS[:12]), [("a", 20, 1), ("a", 21, 2), ("f", 21, 1), ("a", 21, 1)])
        plan = planned(asked)[1]
        for place, name in enumerate(LETTERS[:12]):
            self.assertEqual(serves(asked, plan, name, 20 - place), [0])
            self.assertEqual(serves(asked, plan, name, 21 - place), [1, 3])
            self.assertEqual(serves(asked, plan, name, 22 - place), [])
            self.assertEqual(serves(asked, plan, name, 26 - place), [2] if name >= "f" else [])

    def test_a_want_met_by_several_ways_is_told_once(self):
        # The end goes into the top by each of three middles, and straight.
        asked = shop(["top 0 x y z end", "x 0 end", "y 0 end", "z 0 end x", "end"], [("top", 1, 2), ("x", 1, 1)])
        plan = planned(asked)[1]
        self.assertEqual(serves(asked, plan, "end", 1), [0, 1])
        self.assertEqual(serves(asked, plan, "x", 1), [0, 1])
        self.assertEqual(serves(asked, plan, "z", 1), [0])
        self.assertEqual(serves(asked, plan, "end", 0), [])

    def test_many_ways(self):
        # Each is made of all that follow, so there are as many ways down as the powers of two.
        names = LETTERS[:12]
        rows = [" ".join([name, "0"] + list(names[place + 1:place + 7])) for place, name in enumerate(names)]
        asked = shop(rows, [("a", 0, 1)])
        self.assertEqual(serves(asked, planned(asked)[1], "l", 0), [0])

    def test_rising(self):
        wants = [("b", 1, 1), ("a", 3, 1), ("b", 0, 1), ("a", 1, 1), ("b", 2, 1), ("a", 2, 1), ("a", 1, 1)]
        asked = ((ware("a", 1, 1, parts=(("b", 1),)), ware("b", 0, 10)), tuple(wants))
        plan = planned(asked)[1]
        self.assertEqual(plan, {"a": [0, 2, 1, 1], "b": [1, 0, 0, 0]})
        self.assertEqual(serves(asked, plan, "b", 0), [0, 1, 2, 3, 4, 5, 6])
        self.assertEqual(serves(asked, plan, "a", 1), [3, 6])

    def test_none_by_stock_floors_and_what_is_left(self):
        asked = ((ware("a", 0, 5, 5, 0, ((1, 4),)),), (("a", 1, 4), ("a", 0, 0)))
        plan = {"a": [1, 1]}
        self.assertEqual(judged(asked, plan), ("good",))
        self.assertEqual(serves(asked, plan, "a", 0), [])
        self.assertEqual(serves(asked, plan, "a", 1), [])

    def test_no_lots_on_the_day(self):
        asked = shop(["a"], [("a", 2, 1), ("a", 4, 1)])
        plan = planned(asked)[1]
        for day in (0, 1, 3, 5, 6, 400, 401, 10 ** 9):
            self.assertEqual(serves(asked, plan, "a", day), [])
        self.assertEqual(serves(asked, plan, "a", 2), [0])
        self.assertEqual(serves(asked, plan, "a", 4), [1])

    def test_lots_of_one_day_of_unlike_wares(self):
        asked = shop(["a", "b"], [("b", 1, 1), ("a", 1, 1)])
        plan = planned(asked)[1]
        self.assertEqual(serves(asked, plan, "a", 1), [1])
        self.assertEqual(serves(asked, plan, "b", 1), [0])

    def test_many_plans(self):
        told = []
        for asked, plan in keeping(150, 506):
            for name in plan:
                for day in range(plain.days(asked) + 2):
                    found = serves(asked, plan, name, day)
                    self.assertEqual(found, plain.serves(asked, plan, name, day), (asked, plan, name, day))
                    told.append(len(found))
        self.assertGreater(told.count(1), 100)
        self.assertGreater(max(told), 2)

    def test_kinds(self):
        told = serves(BENCH, planned(BENCH)[1], "leg", 2)
        self.assertIs(told.__class__, list)
        self.assertEqual({number.__class__ for number in told}, {int})


class Refusals(unittest.TestCase):
    def test_rings(self):
        for rows in RINGS:
            asked = shop(rows)
            for name in [entry[0] for entry in asked[0]] + ["zzz"]:
                plan = {entry[0]: [0] for entry in asked[0]}
                self.assertRaises(Ring, pegs, asked, plan, name)
                self.assertRaises(Ring, serves, asked, plan, name, 0)

    def test_names(self):
        plan = planned(BENCH)[1]
        self.assertRaises(NoName, pegs, BENCH, plan, "legs")
        self.assertRaises(NoName, serves, BENCH, plan, "legs", 0)


class HandedIn(unittest.TestCase):
    def test_it_stays_as_it_was(self):
        for asked, plan in keeping(20, 507):
            former = copy.deepcopy((asked, plan))
            for name in plan:
                pegs(asked, plan, name)
                serves(asked, plan, name, 3)
            self.assertEqual((asked, plan), former)

    def test_it_may_be_changed_behind_the_call(self):
        plan = planned(BENCH)[1]
        told = [pegs(BENCH, plan, "leg"), serves(BENCH, plan, "leg", 2)]
        former = copy.deepcopy(told)
        changed(plan)
        self.assertEqual(told, former)

    def test_what_is_told_may_be_changed(self):
        plan = planned(BENCH)[1]
        for call in (lambda: pegs(BENCH, plan, "leg"), lambda: serves(BENCH, plan, "leg", 2),
                     lambda: serves(BENCH, plan, "board", 0)):
            told = call()
            former = copy.deepcopy(told)
            told.append("more")
            told[0] = "changed"
            self.assertEqual(call(), former)


if __name__ == "__main__":
    unittest.main()
