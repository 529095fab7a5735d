"""Point 4: names and wares."""

import unittest

from needplan.wares import is_name, is_ware
from samples import BIG, LETTERS, Odd, no_texts, no_tuples, no_whole_numbers, put, ware

FULL = ("bolt", 3, 10, 5, 7, ((0, 4), (400, 0)), (("iron", 2), ("zinc", 1)))
ROD = ware("rod")


class Asked(unittest.TestCase):
    def yes(self, ask, found):
        with self.subTest(found=repr(found)):
            self.assertIs(ask(found), True)

    def no(self, ask, found):
        with self.subTest(found=object.__repr__(found) if isinstance(found, Odd) else repr(found)):
            self.assertIs(ask(found), False)


class Names(Asked):
    def test_names(self):
        for letter in LETTERS:
            self.yes(is_name, letter)
            self.yes(is_name, letter * 8)
        for count in range(1, 9):
            self.yes(is_name, LETTERS[:count])
            self.yes(is_name, LETTERS[-count:])

    def test_lengths(self):
        for found in ("", "abcdefghi", "a" * 9, "a" * 16, LETTERS, "a" * 4000):
            self.no(is_name, found)

    def test_signs(self):
        signs = [chr(code) for code in range(0, 0x250) if chr(code) not in LETTERS]
        signs += ["\u0430", "\u03b1", "\u2071", "\u1e9e", "\ufb01", "\uff41", "\u0661", "\u2028", "\U0001d41a"]
        for sign in signs:
            for found in (sign, "ab" + sign, sign + "ab", "a" + sign + "b"):
                self.no(is_name, found)

    def test_wrong_words(self):
        for found in ("A", "Z", "Bolt", "boLt", "bolT", "BOLT", "0", "bolt1", "a b", " a", "a ", "a\n", "\na", "a_b"):
            self.no(is_name, found)

    def test_no_texts(self):
        for found in no_texts():
            self.no(is_name, found)


class Wares(Asked):
    def at(self, place, good, bad):
        for base in (FULL, ROD):
            for value in good:
                self.yes(is_ware, put(base, place, value))
            for value in bad:
                self.no(is_ware, put(base, place, value))

    def test_wares(self):
        for found in (FULL, ROD, ware("a"), ware("abcdefgh")):
            self.yes(is_ware, found)

    def test_name(self):
        self.at(0, ["a", "z", "abcdefgh"], ["", "abcdefghi", "A", "a1", "a ", "\u00e4"] + no_texts())

    def test_lag(self):
        self.at(1, list(range(31)), [-1, 31, 32, -30, BIG, -BIG] + no_whole_numbers())

    def test_gives(self):
        self.at(2, [1, 2, 31, 401, BIG], [0, -1, -BIG] + no_whole_numbers())

    def test_floor(self):
        self.at(3, [0, 1, 31, 401, BIG], [-1, -2, -BIG] + no_whole_numbers())

    def test_stock(self):
        self.at(4, [0, 1, 31, 401, BIG], [-1, -2, -BIG] + no_whole_numbers())

    def test_coming(self):
        good = [(), ((0, 0),), ((400, BIG),), ((5, 1), (5, 1)), ((9, 1), (2, 3)), ((1, 2),) * 12,
                tuple((day, day) for day in range(12))]
        bad = [((1, 2),) * 13, ((1, 2),) * 14, [], [(1, 2)], ([1, 2],), (1, 2), ((1, 2), 3), ((1, 2), None),
               ((),), ((1,),), ((1, 2, 3),), (("a", 1),), ({1: 2},), "", "ab", ("ab",)]
        self.at(5, good, bad + no_tuples())
        for odd in no_tuples():
            self.at(5, [], [(odd,), ((1, 2), odd), (odd, (1, 2))])

    def test_coming_days_and_amounts(self):
        for day in (0, 1, 399, 400):
            self.at(5, [((day, 1),), ((3, 3), (day, 1))], [])
        for day in [-1, 401, 402, BIG, -BIG] + no_whole_numbers():
            self.at(5, [], [((day, 1),), ((3, 3), (day, 1)), ((day, 1), (3, 3))])
        for amount in (0, 1, 401, BIG):
            self.at(5, [((7, amount),), ((3, 3), (7, amount))], [])
        for amount in [-1, -2, -BIG] + no_whole_numbers():
            self.at(5, [], [((7, amount),), ((3, 3), (7, amount)), ((7, amount), (3, 3))])

    def test_parts(self):
        six = tuple((name, 1) for name in "abcdef")
        good = [(), (("a", 1),), (("abcdefgh", BIG),), (("b", 1), ("a", 1)), six, six[::-1], six[:5], (("rod", 1),)]
        bad = [six + (("g", 1),), six + (("a", 1),), six + (("g", 1), ("h", 1)), [], [("a", 1)], (["a", 1],),
               ("a", 1), (("a", 1), "b"), (("a", 1), None), ((),), (("a",),), (("a", 1, 1),), ((1, "a"),),
               ({"a": 1},), "", "ab", ("ab",)]
        self.at(6, good, bad + no_tuples())
        for odd in no_tuples():
            self.at(6, [], [(odd,), (("a", 1), odd), (odd, ("a", 1))])

    def test_a_part_twice(self):
        for found in ((("a", 1), ("a", 1)), (("a", 1), ("a", 2)), (("a", 1), ("b", 1), ("a", 3)),
                      (("b", 1), ("a", 1), ("a", 3)), (("rod", 1), ("rod", 1))):
            self.at(6, [], [found])

    def test_part_names_and_amounts(self):
        for name in ["", "abcdefghi", "A", "a1"] + no_texts():
            self.at(6, [], [((name, 1),), (("a", 1), (name, 1)), ((name, 1), ("a", 1))])
        for amount in (1, 2, 401, BIG):
            self.at(6, [(("b", amount),), (("a", 1), ("b", amount))], [])
        for amount in [0, -1, -BIG] + no_whole_numbers():
            self.at(6, [], [(("b", amount),), (("a", 1), ("b", amount)), (("b", amount), ("a", 1))])

    def test_members(self):
        for base in (FULL, ROD):
            for count in range(7):
                self.no(is_ware, base[:count])
                self.no(is_ware, base[count:] + base[:count] if count else base[1:])
            for more in ((), 0, None, ("a", 1)):
                self.no(is_ware, base + (more,))
            self.no(is_ware, list(base))
            self.no(is_ware, (base,))
            self.no(is_ware, base + base)

    def test_anything_else(self):
        for found in no_tuples() + no_texts() + no_whole_numbers() + ["abcdefg", dict.fromkeys(FULL)]:
            self.no(is_ware, found)


if __name__ == "__main__":
    unittest.main()
