"""Point 8: the lots from nothing; points 2 and 6 of it."""

import copy
import unittest

from needplan.errors import Ring
from needplan.explode import explode
from samples import BIG, LETTERS, RINGS, chain, changed, full_shops, put, random_shops, shop, ware

CART = ((ware("nail", gives=100), ware("cart", parts=(("wheel", 4), ("board", 3), ("nail", 7))),
         ware("board", gives=6, parts=(("wood", 1), ("nail", 2))), ware("wheel", parts=(("board", 2), ("nail", 9))),
         ware("wood", gives=4), ware("tar")),
        (("cart", 9, 5), ("board", 3, 2), ("cart", 0, 1)))
# 6 carts; 24 wheels; 18 + 48 + 2 boards by sixes; 12 pieces of wood by fours; 42 + 216 + 24 nails by hundreds.
CART_LOTS = {"cart": 6, "wheel": 24, "board": 12, "wood": 3, "nail": 3, "tar": 0}


class Explode(unittest.TestCase):
    def right(self, asked):
        lots = explode(asked)
        self.assertIs(lots.__class__, dict)
        self.assertEqual(sorted(lots), sorted(entry[0] for entry in asked[0]))
        for name, lag, gives, floor, stock, coming, parts in asked[0]:
            needed = sum(amount for wanted, day, amount in asked[1] if wanted == name)
            for taker in asked[0]:
                needed += lots[taker[0]] * dict(taker[6]).get(name, 0)
            self.assertIs(lots[name].__class__, int)
            self.assertGreaterEqual(lots[name] * gives, needed, (asked, name))
            if lots[name] != 0:
                self.assertLess((lots[name] - 1) * gives, needed, (asked, name))
            self.assertGreaterEqual(lots[name], 0, (asked, name))

    def test_a_cart(self):
        self.assertEqual(explode(CART), CART_LOTS)
        self.assertEqual(explode((CART[0][::-1], CART[1][::-1])), CART_LOTS)
        self.right(CART)

    def test_one_ware(self):
        for gives, amount, lots in ((1, 0, 0), (1, 1, 1), (1, 7, 7), (5, 1, 1), (5, 4, 1), (5, 5, 1), (5, 6, 2),
                                    (5, 10, 2), (5, 11, 3), (9, 8, 1), (BIG, 1, 1), (1, BIG, BIG), (2, BIG, 5 * 10 ** 39)):
            asked = ((ware("rod", gives=gives),), (("rod", 3, amount),))
            self.assertEqual(explode(asked), {"rod": lots}, asked)

    def test_no_wants(self):
        self.assertEqual(explode((CART[0], ())), dict.fromkeys(CART_LOTS, 0))
        self.assertEqual(explode(shop(["a"])), {"a": 0})

    def test_wants_of_nothing(self):
        self.assertEqual(explode((CART[0], (("cart", 0, 0), ("board", 400, 0)))), dict.fromkeys(CART_LOTS, 0))
        self.assertEqual(explode((CART[0], CART[1] + (("tar", 4, 0), ("cart", 7, 0)))), CART_LOTS)

    def test_several_wants_are_summed_ahead_of_rounding(self):
        wares = (ware("pin", gives=10),)
        for wants, lots in (((3, 3, 3), 1), ((3, 3, 4), 1), ((3, 3, 5), 2), ((1,) * 20, 2), ((9, 9), 2)):
            self.assertEqual(explode((wares, tuple(("pin", 2, amount) for amount in wants))), {"pin": lots})

    def test_what_several_take_is_summed_ahead_of_rounding(self):
        asked = ((ware("a", parts=(("d", 4),)), ware("d", gives=10), ware("b", parts=(("d", 5),)),
                  ware("c", parts=(("a", 1), ("b", 1), ("d", 1)))), (("c", 1, 1),))
        self.assertEqual(explode(asked), {"a": 1, "b": 1, "c": 1, "d": 1})
        self.assertEqual(explode((asked[0], asked[1] + (("d", 1, 1),))), {"a": 1, "b": 1, "c": 1, "d": 2})

    def test_a_lot_takes_its_parts_whole(self):
        asked = ((ware("cake", gives=12, parts=(("egg", 4),)), ware("egg", gives=6)), (("cake", 1, 13),))
        self.assertEqual(explode(asked), {"cake": 2, "egg": 2})

    def test_stock_floors_coming_and_days_count_nothing(self):
        for place, value in ((1, 30), (3, 1000), (4, 1000), (5, ((0, 1000), (3, 50)))):
            wares = tuple(put(entry, place, value) for entry in CART[0])
            self.assertEqual(explode((wares, CART[1])), CART_LOTS)
        for day in (0, 1, 400):
            self.assertEqual(explode((CART[0], tuple(put(want, 1, day) for want in CART[1]))), CART_LOTS)

    def test_great_amounts(self):
        asked = ((ware("a", parts=(("b", BIG),)), ware("b", gives=7, parts=(("c", BIG),)), ware("c", gives=BIG - 3)),
                 (("a", 1, BIG), ("c", 2, BIG), ("a", 3, BIG)))
        below = -(-2 * BIG * BIG // 7)
        self.assertEqual(explode(asked), {"a": 2 * BIG, "b": below, "c": -(-(below * BIG + BIG) // (BIG - 3))})
        self.right(asked)

    def test_a_chain_of_twelve(self):
        rows = chain(LETTERS[:12])
        for order in (rows, rows[::-1], rows[::2] + rows[1::2]):
            self.assertEqual(explode(shop(order, [("a", 0, 4), ("l", 0, 1)])),
                             {**dict.fromkeys(LETTERS[:11], 4), "l": 5})

    def test_many_shops(self):
        for asked in full_shops(300, 81):
            self.right(asked)
        for asked in full_shops(60, 82, count=12, amount=BIG):
            self.right(asked)
        for asked in random_shops(100, 83, True):
            self.right(asked)

    def test_rings(self):
        for rows in RINGS:
            with self.subTest(rows=rows), self.assertRaises(Ring):
                explode(shop(rows))
            with self.subTest(rows=rows, wants=1), self.assertRaises(Ring):
                explode(shop(rows, [(rows[0].split()[0], 1, 1)]))

    def test_what_is_handed_in_stays_and_what_is_told_is_new(self):
        former = copy.deepcopy(CART)
        for turn in range(3):
            told = explode(CART)
            self.assertEqual(told, CART_LOTS)
            changed(told)
            self.assertEqual(CART, former)


if __name__ == "__main__":
    unittest.main()
