"""Points 19 to 22: what orders cost, the cheapest ones, right values and what is bought; points 2, 3 and 6 of them."""

import copy
import itertools
import random
import unittest

import plain
from needplan.cheap import bought, cheapest, cost_of, right_values
from needplan.errors import NoBuy, NoDay, NoName, NoPlan, Ring
from needplan.plans import days_of, planned
from needplan.shifts import put_off, with_want
from samples import BIG, RINGS, busy_shops, changed, full_shops, shop, ware

WANTED = [10, 0, 5]
TERMS = [(20, 1, 1), (5, 2, 0), (30, 1, 9)]


def random_rows(source, most_days, most_amount, most_setup, most_price, most_keep):
    """Something wanted, and terms, often with days for which nothing can be ordered."""
    days = source.randint(0, most_days)
    wanted = [source.choice((0, 1, source.randint(0, most_amount))) for day in range(days)]
    closed = source.choice((0, 0, 1, 4))
    terms = []
    for day in range(days):
        setup = None if source.randint(0, 9) < closed else source.choice((0, source.randint(0, most_setup)))
        terms.append((setup, source.randint(0, most_price), source.choice((0, source.randint(0, most_keep)))))
    return wanted, terms


def can_be_ordered(wanted, terms):
    return all(amount == 0 or any(term[0] is not None for term in terms[:day + 1]) for day, amount in enumerate(wanted))


class CostOf(unittest.TestCase):
    def test_costs(self):
        for orders, cost in (([10, 5, 0], 20 + 10 + 5 + 10), ([15, 0, 0], 20 + 15 + 5), ([10, 0, 5], 30 + 35),
                             ([16, 0, 0], 20 + 16 + 6 + 9), ([10, 5, 1], 30 + 15 + 31 + 9), ([10, 6, 0], 30 + 17 + 9),
                             ([12, 1, 2], 20 + 12 + 2 + 5 + 2 + 30 + 2)):
            self.assertEqual(cost_of(WANTED, TERMS, orders), cost)

    def test_each_sort_of_cost(self):
        self.assertEqual(cost_of([1, 1], [(7, 0, 0), (9, 0, 0)], [1, 1]), 16)
        self.assertEqual(cost_of([1, 1], [(0, 7, 0), (0, 9, 0)], [1, 1]), 16)
        self.assertEqual(cost_of([1, 1], [(0, 0, 7), (0, 0, 9)], [1, 1]), 0)
        self.assertEqual(cost_of([1, 1], [(0, 0, 7), (0, 0, 9)], [2, 0]), 7)
        self.assertEqual(cost_of([1, 1], [(0, 0, 7), (0, 0, 9)], [2, 1]), 16)
        self.assertEqual(cost_of([0, 0], [(0, 0, 7), (0, 0, 9)], [3, 2]), 21 + 45)

    def test_orders_of_nothing(self):
        self.assertEqual(cost_of([0, 0, 0], TERMS, [0, 0, 0]), 0)
        self.assertEqual(cost_of([0, 0], [(None, 1, 1), (5, 1, 1)], [0, 0]), 0)
        self.assertIsNone(cost_of([1], [(5, 1, 1)], [0]))

    def test_no_days(self):
        self.assertEqual(cost_of([], [], []), 0)

    def test_days_without_a_setup(self):
        terms = [(4, 1, 2), (None, 3, 5), (6, 1, 1)]
        self.assertEqual(cost_of([1, 2, 3], terms, [3, 0, 3]), 4 + 3 + 4 + 6 + 3)
        self.assertEqual(cost_of([1, 2, 3], terms, [6, 0, 0]), 4 + 6 + 10 + 15)
        self.assertIsNone(cost_of([1, 2, 3], terms, [1, 2, 3]))
        self.assertIsNone(cost_of([1, 2, 3], terms, [3, 1, 3]))
        self.assertIsNone(cost_of([1, 2, 3], terms, [9, 1, 0]))
        # Things are kept on such a day at its cost.
        self.assertEqual(cost_of([0, 0, 3], terms, [3, 0, 0]), 4 + 3 + 6 + 15)

    def test_a_setup_of_0_is_one(self):
        self.assertEqual(cost_of([2], [(0, 3, 1)], [2]), 6)

    def test_orders_below_0(self):
        for orders in ([-1, 0], [0, -1], [5, -1], [5, -5], [-5, 9], [-1, -1]):
            self.assertIsNone(cost_of([0, 0], [(1, 1, 1), (1, 1, 1)], orders))
            self.assertIsNone(cost_of([0, 0], [(None, 1, 1), (None, 1, 1)], orders))
        self.assertIsNone(cost_of([1, 0], [(1, 1, 1), (1, 1, 1)], [3, -1]))

    def test_too_late(self):
        for orders in ([9, 6, 0], [0, 15, 0], [0, 0, 15], [10, 4, 0], [10, 0, 4], [14, 0, 0], [0, 0, 0], [9, 0, 100],
                       [9, 1, 5]):
            self.assertIsNone(cost_of(WANTED, TERMS, orders))

    def test_great_amounts(self):
        self.assertEqual(cost_of([BIG, 1], [(BIG, BIG, BIG), (BIG, BIG, BIG)], [BIG + 2, 0]),
                         BIG + BIG * (BIG + 2) + 2 * BIG + BIG)
        self.assertIsNone(cost_of([BIG], [(1, 1, 1)], [BIG - 1]))

    def test_many_orders(self):
        source = random.Random(601)
        seen = {True: 0, False: 0}
        for turn in range(3000):
            wanted, terms = random_rows(source, 5, 4, 9, 5, 4)
            orders = [max(0, amount + source.choice((-1, 0, 0, 0, 1))) for amount in wanted]
            if orders:
                orders[0] += source.choice((0, 2, 5))
                orders[-1] += source.choice((0, 0, 0, -2))
            cost = plain.cost(wanted, terms, orders)
            self.assertEqual(cost_of(wanted, terms, orders), cost, (wanted, terms, orders))
            seen[cost is None] += 1
        self.assertGreater(min(seen.values()), 500)


class RightValues(unittest.TestCase):
    def test_one_day(self):
        for values, right in (([0], True), ([10], True), ([16], True), ([17], True), ([18], False), ([-1], False)):
            self.assertIs(right_values([6], [(5, 2, 9)], values), right)

    def test_below_0(self):
        for values in ([-1, 0, 0], [0, 0, -1], [20, 0, -5], [0, -1, 0]):
            self.assertIs(right_values(WANTED, TERMS, values), False)
        self.assertIs(right_values([1], [(None, 0, 0)], [-1]), False)
        self.assertIs(right_values([0], [(None, 0, 0)], [-1]), False)

    def test_where_nothing_is_wanted(self):
        self.assertIs(right_values([0, 5], [(50, 1, 1), (50, 1, 1)], [0, 5]), True)
        self.assertIs(right_values([0, 5], [(50, 1, 1), (50, 1, 1)], [1, 5]), False)
        self.assertIs(right_values([5, 0], [(50, 1, 1), (50, 1, 1)], [5, 1]), False)
        self.assertIs(right_values([0], [(None, 1, 1)], [1]), False)
        self.assertIs(right_values([0], [(None, 1, 1)], [0]), True)

    def test_too_much_for_a_setup_by_one(self):
        # From day 0 serving costs 10, -, 10; from day 2 it costs 5; from day 1 10.
        for values, right in (([30, 0, 10], True), ([31, 0, 10], False), ([25, 0, 15], True), ([26, 0, 15], False),
                              ([25, 0, 16], False), ([10, 0, 15], True), ([10, 0, 16], False), ([0, 0, 15], True),
                              ([0, 0, 16], False)):
            self.assertIs(right_values(WANTED, TERMS, values), right, values)
        terms = [(100, 1, 1), (100, 1, 1), (30, 1, 9)]
        for values, right in (([10, 0, 35], True), ([10, 0, 36], False), ([90, 0, 35], True), ([91, 0, 35], False)):
            self.assertIs(right_values(WANTED, terms, values), right, values)

    def test_what_serving_costs_more_than_the_value_is_not_set_against_others(self):
        # Day 1 is worth far less than serving it costs, and gives nothing to day 0 for it.
        self.assertIs(right_values([1, 9], [(5, 10, 0), (None, 0, 0)], [15, 0]), True)
        self.assertIs(right_values([1, 9], [(5, 10, 0), (None, 0, 0)], [16, 0]), False)
        self.assertIs(right_values([9, 1], [(5, 10, 0), (None, 0, 0)], [0, 15]), True)
        self.assertIs(right_values([9, 1], [(5, 10, 0), (None, 0, 0)], [0, 16]), False)

    def test_a_setup_of_0(self):
        self.assertIs(right_values([3], [(0, 2, 1)], [6]), True)
        self.assertIs(right_values([3], [(0, 2, 1)], [7]), False)
        self.assertIs(right_values([3, 3], [(0, 2, 1), (None, 0, 1)], [6, 9]), True)
        self.assertIs(right_values([3, 3], [(0, 2, 1), (None, 0, 1)], [6, 10]), False)
        self.assertIs(right_values([3, 3], [(0, 2, 1), (None, 0, 1)], [7, 9]), False)

    def test_keeps_from_the_day_up_to_the_one_ahead(self):
        terms = [(0, 1, 10), (None, 0, 100), (None, 0, 1000)]
        for day, worth in ((0, 1), (1, 11), (2, 111)):
            values = [worth if place == day else 0 for place in range(3)]
            self.assertIs(right_values([1, 1, 1], terms, values), True)
            values[day] += 1
            self.assertIs(right_values([1, 1, 1], terms, values), False)

    def test_days_without_a_setup_bound_nothing(self):
        self.assertIs(right_values([3], [(None, 0, 0)], [BIG]), True)
        self.assertIs(right_values([3, 3], [(None, 0, 0), (4, 1, 0)], [BIG, 7]), True)
        self.assertIs(right_values([3, 3], [(None, 0, 0), (4, 1, 0)], [BIG, 8]), False)

    def test_a_day_is_not_served_from_one_behind(self):
        self.assertIs(right_values([3, 3], [(10, 1, 1), (0, 0, 0)], [13, 0]), True)
        self.assertIs(right_values([3, 3], [(10, 1, 1), (0, 0, 0)], [13, 1]), False)

    def test_no_days(self):
        self.assertIs(right_values([], [], []), True)

    def test_great_values(self):
        self.assertIs(right_values([BIG], [(BIG, BIG, 0)], [BIG * BIG + BIG]), True)
        self.assertIs(right_values([BIG], [(BIG, BIG, 0)], [BIG * BIG + BIG + 1]), False)

    def test_many_values(self):
        source = random.Random(602)
        seen = {True: 0, False: 0}
        for turn in range(4000):
            wanted, terms = random_rows(source, 5, 3, 9, 3, 3)
            values = [source.choice((0, 1, source.randint(0, 12))) if amount else source.choice((0,) * 9 + (1,))
                      for amount in wanted]
            if values and source.randint(0, 9) == 0:
                values[source.randrange(len(values))] -= 1
            right = plain.right(wanted, terms, values)
            self.assertIs(right_values(wanted, terms, values), right, (wanted, terms, values))
            seen[right] += 1
            if right and can_be_ordered(wanted, terms):
                self.assertLessEqual(sum(values), plain.cheapest_of_choices(wanted, terms), (wanted, terms, values))
        self.assertGreater(min(seen.values()), 500)


class Cheapest(unittest.TestCase):
    def right(self, wanted, terms):
        former = copy.deepcopy((wanted, terms))
        told = cheapest(wanted, terms)
        self.assertEqual((wanted, terms), former)
        self.assertEqual([member.__class__ for member in (told, *told)], [tuple, int, list, list])
        cost, orders, values = told
        self.assertEqual((len(orders), len(values)), (len(wanted), len(wanted)))
        self.assertEqual(plain.cost(wanted, terms, orders), cost, (wanted, terms, told))
        self.assertEqual(cost_of(wanted, terms, orders), cost, (wanted, terms, told))
        self.assertTrue(plain.right(wanted, terms, values), (wanted, terms, told))
        self.assertIs(right_values(wanted, terms, values), True, (wanted, terms, told))
        self.assertEqual(sum(values), cost, (wanted, terms, told))
        return cost

    def test_one_choice(self):
        self.assertEqual(cheapest([6], [(5, 2, 9)]), (17, [6], [17]))
        self.assertEqual(cheapest([0, 6], [(5, 2, 9), (90, 9, 0)]), (5 + 12 + 54, [6, 0], [0, 71]))
        self.assertEqual(cheapest(WANTED, TERMS)[:2], (40, [15, 0, 0]))
        self.right(WANTED, TERMS)

    def test_days_that_cost_less(self):
        for terms, orders in (
                ([(9, 1, 1), (9, 1, 1), (9, 1, 1)], [3, 0, 0]), ([(1, 1, 1), (1, 1, 1), (1, 1, 2)], [2, 0, 1]),
                ([(9, 9, 0), (9, 1, 0), (9, 9, 0)], [1, 2, 0]), ([(9, 1, 30), (9, 1, 30), (9, 1, 0)], [1, 1, 1]),
                ([(9, 1, 30), (9, 1, 0), (9, 1, 30)], [1, 2, 0])):
            with self.subTest(terms=terms):
                cost = self.right([1, 1, 1], terms)
                self.assertEqual(cost, plain.cost([1, 1, 1], terms, orders))

    def test_nothing_wanted(self):
        for terms in ([(5, 1, 1)] * 3, [(None, 1, 1)] * 3, [(0, 0, 0)] * 3):
            self.assertEqual(cheapest([0, 0, 0], terms), (0, [0, 0, 0], [0, 0, 0]))

    def test_no_days(self):
        self.assertEqual(cheapest([], []), (0, [], []))

    def test_nothing_wanted_at_first_and_at_last(self):
        cost = self.right([0, 0, 4, 0, 0], [(9, 9, 9), (3, 1, 1), (9, 1, 1), (0, 0, 0), (0, 0, 0)])
        self.assertEqual(cost, 3 + 4 + 4)

    def test_all_for_nothing(self):
        self.assertEqual(self.right([3, 0, 4], [(0, 0, 0)] * 3), 0)

    def test_no_day(self):
        for wanted, setups in (([1], [None]), ([0, 1], [None, None]), ([1, 0], [None, 0]), ([1, 1], [None, 5]),
                               ([0, 1, 1], [None, None, 5]), ([0, 0, 1], [None] * 3), ([1, 0, 0], [None, 1, 1])):
            self.assertRaises(NoDay, cheapest, wanted, [(setup, 1, 1) for setup in setups])
        for wanted, setups in (([0], [None]), ([0, 1], [None, 5]), ([0, 1], [5, None]), ([1, 1], [5, None]),
                               ([0, 0, 1], [None, 0, None]), ([0, 0, 1], [None, None, 0])):
            self.right(wanted, [(setup, 1, 1) for setup in setups])

    def test_great_amounts(self):
        self.assertEqual(self.right([BIG, BIG], [(BIG, BIG, 1), (BIG, BIG, 0)]), 2 * BIG * BIG + 2 * BIG)
        self.assertEqual(self.right([BIG, BIG], [(BIG, BIG, 0), (BIG, BIG, 0)]), 2 * BIG * BIG + BIG)
        source = random.Random(603)
        for turn in range(40):
            wanted, terms = random_rows(source, 40, BIG, BIG * BIG, BIG, BIG)
            if can_be_ordered(wanted, terms):
                self.right(wanted, terms)

    def test_every_choice_of_days(self):
        source = random.Random(604)
        seen = {True: 0, False: 0}
        for turn in range(1500):
            wanted, terms = random_rows(source, 6, 9, 30, 9, 5)
            least = plain.cheapest_of_choices(wanted, terms)
            self.assertEqual(least is not None, can_be_ordered(wanted, terms))
            seen[least is None] += 1
            if least is None:
                self.assertRaises(NoDay, cheapest, wanted, terms)
            else:
                self.assertEqual(self.right(wanted, terms), least, (wanted, terms))
        self.assertGreater(min(seen.values()), 100)

    def test_every_order(self):
        source = random.Random(605)
        for turn in range(60):
            wanted, terms = random_rows(source, 4, 2, 6, 3, 2)
            if can_be_ordered(wanted, terms):
                found = [plain.cost(wanted, terms, list(orders))
                         for orders in itertools.product(range(sum(wanted) + 2), repeat=len(wanted))]
                self.assertEqual(self.right(wanted, terms), min(cost for cost in found if cost is not None))

    def test_long_rows(self):
        source = random.Random(606)
        for turn in range(3):
            wanted = [source.choice((0, source.randint(0, 50))) for day in range(401)]
            terms = [(source.choice((None, source.randint(0, 900))), source.randint(0, 9), source.randint(0, 3))
                     for day in range(401)]
            terms[0] = (40, 3, 1)
            self.right(wanted, terms)


class Bought(unittest.TestCase):
    # Screws are bought by hundreds in two days; a box takes thirty.
    SHOP = ((ware("box", 1, 1, 0, 0, (), (("screw", 30),)), ware("screw", 2, 100, 20, 90, ((3, 10),))),
            (("box", 2, 2), ("box", 5, 6), ("screw", 3, 15)))

    def test_screws(self):
        self.assertEqual(planned(self.SHOP)[1]["screw"], [0, 0, 0, 0, 2, 0])
        terms = [(50, 2, 1)] * 6
        self.assertEqual(bought(self.SHOP, "screw", terms), (450, [0, 0, 0, 0, 200, 0], [0, 0, 0, 0, 450, 0]))
        terms[3] = (10, 2, 0)
        self.assertEqual(bought(self.SHOP, "screw", terms), (410, [0, 0, 0, 200, 0, 0], [0, 0, 0, 0, 410, 0]))

    def test_days_less_than_the_lag(self):
        terms = [(50, 2, 0)] * 6
        for day, cost, orders in ((0, 450, None), (1, 450, None), (2, 401, [0, 0, 200, 0, 0, 0]),
                                  (4, 401, [0, 0, 0, 0, 200, 0]), (5, 450, None)):
            cheaper = terms[:day] + [(1, 2, 0)] + terms[day + 1:]
            told = bought(self.SHOP, "screw", cheaper)
            self.assertEqual(told[0], cost)
            self.assertEqual(sum(told[1][:2]), 0)
            if orders is not None:
                self.assertEqual(told[1], orders)

    def test_days_of_the_terms_without_a_setup(self):
        terms = [(50, 2, 1)] * 6
        terms[4] = (None, 0, 0)
        self.assertEqual(bought(self.SHOP, "screw", terms)[:2], (50 + 400 + 200, [0, 0, 0, 200, 0, 0]))
        terms[3] = (None, 0, 7)
        self.assertEqual(bought(self.SHOP, "screw", terms)[:2], (50 + 400 + 200 + 1400, [0, 0, 200, 0, 0, 0]))
        terms[2] = (None, 0, 0)
        self.assertRaises(NoDay, bought, self.SHOP, "screw", terms)

    def test_nothing_to_buy(self):
        asked = ((ware("a", 9, stock=5),), (("a", 3, 5),))
        self.assertEqual(bought(asked, "a", [(None, 1, 1)] * 4), (0, [0] * 4, [0] * 4))
        self.assertEqual(bought(shop(["a 3"]), "a", [(1, 1, 1)]), (0, [0], [0]))

    def test_refusals_in_their_order(self):
        ring = shop(["a 0 a", "b"], [("b", 0, 1)])
        short = shop(["a 1 b", "b 1"], [("a", 1, 1)])
        long_lag = shop(["a 1 b", "b"], [("a", 1, 1)])
        closed = [(None, 1, 1)] * 2
        for refusal, asked, name in ((Ring, ring, "zzz"), (Ring, ring, "a"), (Ring, ring, "b"),
                                     (NoName, short, "zzz"), (NoName, long_lag, "zzz"), (NoName, long_lag, ""),
                                     (NoBuy, short, "a"), (NoBuy, long_lag, "a"), (NoPlan, short, "b"),
                                     (NoDay, long_lag, "b")):
            self.assertRaises(refusal, bought, asked, name, closed)
        self.assertEqual(bought(long_lag, "b", [(4, 1, 1)] * 2), (5, [1, 0], [5, 0]))

    def test_rings(self):
        for rows in RINGS:
            asked = shop(rows)
            for name in [entry[0] for entry in asked[0]] + ["zzz"]:
                self.assertRaises(Ring, bought, asked, name, [(1, 1, 1)])

    def test_twenty_one_wants_and_days_beyond_400(self):
        asked = put_off(with_want(shop(["a 5"], [("a", 300, 1)] * 20), "a", 400, 5), 50)
        told = bought(asked, "a", [(10, 1, 0)] * 451)
        self.assertEqual((told[0], sum(told[1]), len(told[1])), (35, 25, 451))

    def test_many_shops(self):
        source = random.Random(607)
        seen = {"bought": 0, NoBuy: 0, NoPlan: 0, NoDay: 0}
        for asked in [*busy_shops(200, 608), *full_shops(100, 609)]:
            setups = source.choice(((None, None, None, 5), (None, 0, 7, 40), (9, 30)))
            terms = [(source.choice(setups), source.randint(0, 5), source.choice((0, 1, 3)))
                     for day in range(days_of(asked))]
            for entry in asked[0]:
                seen[self.bought_right(asked, entry, terms)] += 1
        self.assertGreater(min(seen.values()), 20)

    def bought_right(self, asked, entry, terms):
        """Asks for what is bought, and tells what came of it."""
        name, lag, gives, floor, stock, coming, parts = entry
        found = plain.planned(asked)
        refusal = NoBuy if parts else NoPlan if found[0] == "short" else None
        if refusal is None:
            wanted = [gives * lots for lots in found[1][name]]
            late = [(term[0] if day >= lag else None, *term[1:]) for day, term in enumerate(terms)]
            refusal = None if can_be_ordered(wanted, late) else NoDay
        if refusal is not None:
            self.assertRaises(refusal, bought, asked, name, terms)
            return refusal
        cost, orders, values = bought(asked, name, terms)
        self.assertEqual(plain.cost(wanted, late, orders), cost)
        self.assertTrue(plain.right(wanted, late, values))
        self.assertEqual(sum(values), cost)
        self.assertFalse(any(orders[:lag]))
        changes = [here + order - goes for here, order, goes
                   in zip(plain.have(asked, name), orders, plain.needs(asked, found[1], name))]
        self.assertGreaterEqual(min(itertools.accumulate(changes)), floor)
        return "bought"


class HandedIn(unittest.TestCase):
    def calls(self, terms):
        return (lambda: cheapest(WANTED, terms), lambda: bought(Bought.SHOP, "screw", terms * 2),
                lambda: cheapest([], []))

    def test_it_stays_as_it_was(self):
        wanted, terms, orders = list(WANTED), list(TERMS), [10, 5, 0]
        handed = [wanted, terms, orders]
        former = copy.deepcopy(handed)
        cost_of(wanted, terms, orders)
        right_values(wanted, terms, orders)
        cheapest(wanted, terms)
        bought(Bought.SHOP, "screw", terms * 2)
        self.assertEqual(handed, former)
        long_terms = [(5, 1, 1)] * 6
        bought(Bought.SHOP, "screw", long_terms)
        self.assertEqual(long_terms, [(5, 1, 1)] * 6)

    def test_it_may_be_changed_behind_the_call(self):
        wanted, terms = list(WANTED), list(TERMS)
        told = cheapest(wanted, terms)
        former = copy.deepcopy(told)
        changed(wanted)
        changed(terms)
        self.assertEqual(told, former)
        long_terms = [(5, 1, 1)] * 6
        told = bought(Bought.SHOP, "screw", long_terms)
        former = copy.deepcopy(told)
        changed(long_terms)
        self.assertEqual(told, former)

    def test_what_is_told_may_be_changed(self):
        for call in self.calls(list(TERMS)):
            told = call()
            former = copy.deepcopy(told)
            for row in told[1:]:
                row.append("more")
                row[0] = "changed"
            self.assertEqual(call(), former)


if __name__ == "__main__":
    unittest.main()
