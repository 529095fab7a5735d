"""Point 5: shops, and the ware of a name; point 2 of both."""

import copy
import unittest

from needplan.errors import NeedError, NoName
from needplan.wares import is_name, is_shop, is_ware, ware_of
from samples import BIG, LETTERS, Odd, no_texts, no_tuples, no_whole_numbers, put, shop, ware

IRON = ware("iron", 2, 10, 5, 7, ((0, 4),))
BOLT = ware("bolt", 3, 1, 0, 0, (), (("iron", 2),))
DOOR = ware("door", 1, 1, 1, 1, ((3, 3), (400, 0)), (("bolt", 8), ("iron", 1)))
WARES = (DOOR, IRON, BOLT)
WANTS = (("door", 9, 2), ("iron", 0, 0), ("door", 400, BIG))
SHOP = (WARES, WANTS)
TWELVE = tuple(ware(LETTERS[place] * 8) for place in range(12))


class Shops(unittest.TestCase):
    def yes(self, found):
        with self.subTest(found=repr(found)):
            self.assertIs(is_shop(found), True)

    def no(self, found):
        with self.subTest(found=object.__repr__(found) if isinstance(found, Odd) else repr(found)):
            self.assertIs(is_shop(found), False)

    def test_shops(self):
        for found in (SHOP, (WARES, ()), ((IRON,), ()), ((IRON,), (("iron", 1, 1),)), ((IRON, BOLT), ()),
                      ((BOLT, IRON), ()), (WARES[::-1], WANTS)):
            self.yes(found)

    def test_how_many_wares(self):
        for count in range(1, 13):
            self.yes((TWELVE[:count], ()))
        self.no(((), ()))
        self.no((TWELVE + (ware("m"),), ()))
        self.no((TWELVE + (ware("m"), ware("n")), ()))

    def test_how_many_wants(self):
        for count in range(21):
            self.yes((WARES, (("iron", 4, 1),) * count))
        for count in (21, 22, 40):
            self.no((WARES, (("iron", 4, 1),) * count))

    def test_a_ring_is_no_hindrance(self):
        for rows in (["a 0 a"], ["a 0 b", "b 0 a"], ["a 0 b", "b 0 c", "c 0 b"]):
            self.yes(shop(rows))

    def test_a_name_twice(self):
        for wares in ((IRON, IRON), (IRON, ware("iron")), (DOOR, IRON, BOLT, ware("door")), TWELVE[:11] + TWELVE[:1],
                      (ware("a"), ware("b"), ware("b"))):
            self.no((wares, ()))

    def test_names_of_no_ware(self):
        self.no(((BOLT,), ()))
        self.no(((DOOR, IRON), ()))
        self.no(((IRON, ware("nut", parts=(("iron", 1), ("steel", 1)))), ()))
        self.no(((IRON, ware("nut", parts=(("steel", 1), ("iron", 1)))), ()))
        for name in ("steel", "iro", "irons", "a"):
            self.no((WARES, ((name, 1, 1),)))
            self.no((WARES, WANTS + ((name, 1, 1),)))
            self.no((WARES, ((name, 1, 1),) + WANTS))
            self.no((WARES, ((name, 1, 0),)))

    def test_lists_in_the_place_of_tuples(self):
        for found in (list(SHOP), (list(WARES), WANTS), (WARES, list(WANTS)), (WARES, []), ([IRON], ()),
                      ((list(IRON),), ()), (WARES, (["iron", 1, 1],))):
            self.no(found)

    def test_a_spoilt_ware(self):
        spoilt = [put(IRON, 0, "Iron"), put(IRON, 0, ["iron"]), put(IRON, 0, None), put(IRON, 1, 31), put(IRON, 1, -1),
                  put(IRON, 2, 0), put(IRON, 3, -1), put(IRON, 4, -1), put(IRON, 4, True), put(IRON, 5, ((401, 1),)),
                  put(IRON, 5, []), put(IRON, 6, (("iron", 0),)), put(IRON, 6, (("iron", 1), ("iron", 1))),
                  put(IRON, 6, ((["iron"], 1),)), put(IRON, 6, (({}, 1),)), IRON[:6], IRON + (0,), ()]
        for found in spoilt + no_tuples():
            self.no(((found,), ()))
            self.no(((DOOR, found, BOLT), WANTS))
            self.no((WARES + (found,), ()))

    def test_days_and_amounts_of_wants(self):
        for day in (0, 1, 399, 400):
            self.yes((WARES, (("iron", day, 1),)))
        for day in [-1, 401, 402, BIG, -BIG] + no_whole_numbers():
            self.no((WARES, (("iron", day, 1),)))
            self.no((WARES, WANTS + (("iron", day, 1),)))
        for amount in (0, 1, 401, BIG):
            self.yes((WARES, (("iron", 1, amount),)))
        for amount in [-1, -2, -BIG] + no_whole_numbers():
            self.no((WARES, (("iron", 1, amount),)))
            self.no((WARES, WANTS + (("iron", 1, amount),)))

    def test_a_spoilt_want(self):
        for name in ["", "Iron", "iron "] + no_texts():
            self.no((WARES, ((name, 1, 1),)))
            self.no((WARES, WANTS + ((name, 1, 1),)))
        for found in [(), ("iron",), ("iron", 1), ("iron", 1, 1, 1), (1, 1, "iron"), ("iron", "iron", 1)] + no_tuples():
            self.no((WARES, (found,)))
            self.no((WARES, WANTS + (found,)))
            self.no((WARES, (found,) + WANTS))

    def test_members(self):
        for found in ((), (WARES,), (WARES, WANTS, ()), (WARES, WANTS, WANTS), (WANTS, WARES), WARES, WANTS, IRON,
                      ((), WARES), (IRON, ())):
            self.no(found)
        for odd in no_tuples():
            self.no((odd, ()))
            self.no((odd, WANTS))
            self.no((WARES, odd))
            self.no((odd, odd))

    def test_anything_else(self):
        endless = []
        endless.append(endless)
        for found in no_tuples() + no_texts() + no_whole_numbers() + [endless, (endless, endless), {0: WARES, 1: WANTS}]:
            self.no(found)


class WareOf(unittest.TestCase):
    def test_the_ware_of_each_name(self):
        for asked in (SHOP, (TWELVE, ()), shop(["a 1 b", "b 2 a"]), shop(["a 3 a"]), shop(["c", "a 1 b", "b 2 b a"])):
            for entry in asked[0]:
                self.assertEqual(ware_of(asked, entry[0]), entry)

    def test_no_such_ware(self):
        rings = shop(["a 1 b", "b 2 a"])
        for asked in (SHOP, (TWELVE, ()), rings, ((IRON,), ())):
            for name in ("c", "steel", "iro", "irons", "aaaaaaa", "bb", "z"):
                with self.subTest(asked=asked, name=name), self.assertRaises(NoName) as taken:
                    ware_of(asked, name)
                self.assertIsInstance(taken.exception, NeedError)

    def test_beyond_the_bounds(self):
        many = (TWELVE + (ware("m"),), (("m", 405, 1),) * 21)
        self.assertEqual(ware_of(many, "m"), ware("m"))
        with self.assertRaises(NoName):
            ware_of(many, "n")


class Unchanged(unittest.TestCase):
    def test_what_is_handed_in_stays_and_the_answer_too(self):
        asked = copy.deepcopy(SHOP)
        for turn in range(3):
            self.assertIs(is_shop(asked), True)
            self.assertIs(is_ware(asked[0][0]), True)
            self.assertIs(is_name("door"), True)
            self.assertEqual(ware_of(asked, "bolt"), BOLT)
            self.assertEqual(asked, SHOP)

    def test_lists_and_dicts_handed_in_stay(self):
        for found in ([WARES, WANTS], ([IRON], [("iron", 1, 1)]), {"a": [1]}, (WARES, [["iron", 1, 1]])):
            former = copy.deepcopy(found)
            self.assertIs(is_shop(found), False)
            self.assertIs(is_ware(found), False)
            self.assertIs(is_name(found), False)
            self.assertEqual(found, former)

    def test_what_is_changed_behind_the_call_is_looked_at_anew(self):
        coming = []
        found = put(IRON, 5, coming)
        self.assertIs(is_ware(found), False)
        coming.append((1, 1))
        self.assertIs(is_ware(found), False)
        self.assertIs(is_ware(put(IRON, 5, tuple(coming))), True)

    def test_one_answer_has_no_bearing_on_another(self):
        other = ((ware("iron", 9), ware("bolt", 8)), ())
        self.assertEqual(ware_of(SHOP, "iron"), IRON)
        self.assertEqual(ware_of(other, "iron"), ware("iron", 9))
        self.assertEqual(ware_of(SHOP, "iron"), IRON)
        with self.assertRaises(NoName):
            ware_of(other, "door")
        self.assertEqual(ware_of(SHOP, "door"), DOOR)


if __name__ == "__main__":
    unittest.main()
