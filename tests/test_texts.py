"""Point 23: numbers and shops as texts; points 2 and 6 of them."""

import itertools
import random
import unittest

import plain
from needplan.errors import NoShop, NoText
from needplan.order import ring
from needplan.texts import read_number, read_shop, shown_shop
from needplan.wares import is_shop
from samples import LETTERS, RINGS, busy_shops, full_shops, no_texts, put, random_shops, shop, small_shops, ware

MOST = 10 ** 60 - 1

SHOP = ((ware("iron", 7, 100, 20, 60, ((3, 100), (0, 5)), ()), ware("bolt", 2, 50, 0, 0, (), (("iron", 10),)),
         ware("door", 1, 1, 0, 1, ((400, 0),), (("iron", 4), ("bolt", 8)))),
        (("door", 5, 3), ("iron", 0, 0), ("door", 5, 3)))
ROWS = ["ware iron 7 100 20 60", "coming iron 3 100", "coming iron 0 5", "ware bolt 2 50 0 0", "part bolt iron 10",
        "ware door 1 1 0 1", "coming door 400 0", "part door iron 4", "part door bolt 8", "want door 5 3",
        "want iron 0 0", "want door 5 3"]
TEXT = "\n".join(ROWS)


def mixed(rows, source):
    """The rows in another order, those of one sort in theirs."""
    sorts = {}
    for row in rows:
        sorts.setdefault(row.split()[0], []).append(row)
    places = [sort for sort in sorts for row in sorts[sort]]
    source.shuffle(places)
    left = {sort: iter(found) for sort, found in sorts.items()}
    return [next(left[sort]) for sort in places]


class Numbers(unittest.TestCase):
    def test_numbers(self):
        for number in (0, 1, 9, 10, 11, 99, 100, 400, 1000, 10 ** 18, 2 ** 64, 10 ** 59, MOST, MOST - 1):
            found = read_number(str(number))
            self.assertEqual(found, number)
            self.assertIs(found.__class__, int)

    def test_one_to_sixty_figures(self):
        for count in range(1, 61):
            self.assertEqual(read_number("7" * count), int("7" * count))
            self.assertEqual(read_number("1" + "0" * (count - 1)), 10 ** (count - 1))
        for count in (61, 62, 100, 1000):
            self.assertRaises(NoText, read_number, "7" * count)
            self.assertRaises(NoText, read_number, "1" + "0" * (count - 1))

    def test_a_0_ahead(self):
        for word in ("00", "01", "000", "007", "0" * 60, "0" * 59 + "1", "0" * 61):
            self.assertRaises(NoText, read_number, word)

    def test_other_words(self):
        for word in ("", "+1", "-1", "-0", "+0", " 1", "1 ", " ", "1 2", "1\n", "\n1", "\n", "1\t", "\t1", "1\r", "1\x00",
                     "1.0", "1.", ".1", "1_0", "_1", "1,0", "1e3", "0x1", "0b1", "1a", "a1", "a", "l", "O", "None", "True",
                     "1\u200b", "\ufeff1", "1\xa0", "\u20031"):
            self.assertRaises(NoText, read_number, word)

    def test_figures_of_other_scripts(self):
        for word in ("\u0663", "\u0967\u0968", "\uff11", "\uff10", "1\uff11", "\u0661", "\xb2", "1\xb2", "\xbd", "\u2460",
                     "\u4e09", "\u2167", "\U0001d7d9", "\u0be7", "1\u0660"):
            self.assertRaises(NoText, read_number, word)

    def test_no_texts(self):
        for found in no_texts() + [b"1", bytearray(b"1"), ["1"], ("1",), {"1": "1"}, 7, 0, MOST, True]:
            self.assertRaises(NoText, read_number, found)


class Read(unittest.TestCase):
    def test_a_shop(self):
        self.assertEqual(read_shop(TEXT), SHOP)
        self.assertIs(is_shop(read_shop(TEXT)), True)

    def test_one_ware(self):
        self.assertEqual(read_shop("ware a 0 1 0 0"), ((ware("a"),), ()))
        self.assertEqual(read_shop("ware abcdefgh 30 5 6 7"), ((ware("abcdefgh", 30, 5, 6, 7),), ()))

    def test_rows_of_unlike_sorts_in_any_order(self):
        wares, wants = read_shop("\n".join(reversed(ROWS)))
        self.assertEqual(wares, tuple(put(put(entry, 5, entry[5][::-1]), 6, entry[6][::-1]) for entry in SHOP[0][::-1]))
        self.assertEqual(wants, SHOP[1][::-1])
        rows = ["ware a 0 1 0 0", "coming a 1 2", "part a b 3", "want a 4 5", "ware b 0 1 0 0"]
        for found in itertools.permutations(rows):
            first, second = sorted(("a", "b"), key=lambda name: found.index(f"ware {name} 0 1 0 0"))
            made = {"a": ware("a", coming=((1, 2),), parts=(("b", 3),)), "b": ware("b")}
            self.assertEqual(read_shop("\n".join(found)), ((made[first], made[second]), (("a", 4, 5),)))
        source = random.Random(701)
        for turn in range(200):
            self.assertEqual(read_shop("\n".join(mixed(ROWS, source))), SHOP)

    def test_rows_of_one_sort_in_their_order(self):
        rows = ["coming a 3 1", "part b c 1", "coming b 9 9", "want a 2 2", "ware b 0 1 0 0", "coming a 0 2", "part b a 2",
                "want b 1 1", "coming a 3 1", "ware a 0 1 0 0", "want a 0 3", "coming a 2 0", "ware c 0 1 0 0"]
        self.assertEqual(read_shop("\n".join(rows)), (
            (ware("b", coming=((9, 9),), parts=(("c", 1), ("a", 2))),
             ware("a", coming=((3, 1), (0, 2), (3, 1), (2, 0))), ware("c")),
            (("a", 2, 2), ("b", 1, 1), ("a", 0, 3))))

    def test_names_like_the_sorts(self):
        rows = ["ware ware 1 2 3 4", "ware want 0 1 0 0", "part ware want 5", "coming want 6 7", "want ware 8 9",
                "ware part 0 1 0 0", "want coming 1 2", "ware coming 0 1 0 0", "part part coming 3"]
        self.assertEqual(read_shop("\n".join(rows)), (
            (ware("ware", 1, 2, 3, 4, (), (("want", 5),)), ware("want", coming=((6, 7),)),
             ware("part", parts=(("coming", 3),)), ware("coming")), (("ware", 8, 9), ("coming", 1, 2))))

    def test_no_text(self):
        for found in no_texts() + [TEXT.encode(), ROWS, tuple(ROWS), SHOP, bytearray(TEXT.encode())]:
            self.assertRaises(NoText, read_shop, found)

    def test_no_form(self):
        for text in ("", " ", "\n", "ware", "ware ", "ware a", "ware a 0 1 0", "ware a 0 1 0 0 0", "ware a 0 1 0 0 ",
                     " ware a 0 1 0 0", "ware  a 0 1 0 0", "ware a  0 1 0 0", "ware a 0 1 0  0", "ware\ta 0 1 0 0",
                     "ware a 0 1 0\t0", "ware a 0 1 0 0\n", "\nware a 0 1 0 0", "ware a 0 1 0 0\n ", "Ware a 0 1 0 0",
                     "WARE a 0 1 0 0", "wares a 0 1 0 0", "a 0 1 0 0", "ware A 0 1 0 0", "ware abcdefghi 0 1 0 0",
                     "ware a1 0 1 0 0", "ware  0 1 0 0", "ware a_b 0 1 0 0", "ware \xe9 0 1 0 0", "ware a 00 1 0 0",
                     "ware a 0 01 0 0", "ware a 0 1 00 0", "ware a 0 1 0 00", "ware a +0 1 0 0", "ware a -1 1 0 0",
                     "ware a 0 1 0 -1", "ware a x 1 0 0", "ware a 0 1 0 0.0", "ware a 0 1 0 \uff10", "ware a \u0661 1 0 0",
                     f"ware a 0 1 0 {MOST + 1}", f"ware a 0 {MOST + 1} 0 0", f"ware a {MOST + 1} 1 0 0",
                     f"ware a 0 1 {MOST + 1} 0", "ware a 0 1 0 0\rware b 0 1 0 0", "ware a 0 1 0 0\x0bware b 0 1 0 0",
                     "ware a 0 1 0 0\x85ware b 0 1 0 0", "ware a 0 1 0 0\u2028ware b 0 1 0 0", "ware a 0 1 0 0\x1c",
                     "ware a 0 1 0 0 want a 1 2", "ware\na 0 1 0 0", "shop\nware a 0 1 0 0", "ware 0 a 1 0 0"):
            with self.subTest(text=text):
                self.assertRaises(NoText, read_shop, text)

    def test_rows_without_form(self):
        for row in ("", " ", "coming a 1", "coming a 1 2 3", "coming 1 2", "coming a b 1", "coming a 1 b", "coming a 01 2",
                    "coming a 1 -2", "coming A 1 2", "coming a 1  2", "coming a 1 2 ", "comings a 1 2", "Coming a 1 2",
                    f"coming a 1 {MOST + 1}", f"coming a {MOST + 1} 1", "coming a\t1 2", "coming a 1 2\r",
                    "part a b", "part a 1", "part a 1 b", "part a b 1 2", "part a b c", "part a B 1", "part A b 1", "part a b 01",
                    "part a b -1", "part a  1", "part  a b 1", "part a b 1 ", f"part a b {MOST + 1}", "part a bbbbbbbbb 1",
                    "part a b 1\t", "want a 1", "want 1 2", "want a b 1", "want a 1 b", "want a 1 2 3", "want a 1 00",
                    "want a +1 2", "want A 1 2", "want a 1 2 ", " want a 1 2", "want aaaaaaaaa 1 2", f"want a {MOST + 1} 1",
                    f"want a 1 {MOST + 1}", "need a 1 2", "a 1 2", "# want a 1 2", "want a 1 2#", "want a 1 \u0662"):
            with self.subTest(row=row):
                for text in (f"ware a 0 1 0 0\nware b 0 1 0 0\n{row}", f"{row}\nware a 0 1 0 0\nware b 0 1 0 0",
                             f"ware a 0 1 0 0\n{row}\nware b 0 1 0 0", row):
                    self.assertRaises(NoText, read_shop, text)

    def test_no_form_ahead_of_no_shop(self):
        for row in ("ware a 31 1 0 0", "ware b 0 1 0 0", "want zz 1 2", "part b zz 1", "coming b 401 1", "coming zz 1 1"):
            for fault in ("", "want", "want b 1 02", "part b b", "ware c 0 1 0 0 0", "coming B 1 2", "plan"):
                for rows in ((row, fault), (fault, row)):
                    self.assertRaises(NoText, read_shop, "\n".join(("ware b 0 1 0 0",) + rows))
                self.assertRaises(NoText, read_shop, f"{row}\n{fault}")

    def test_no_shop(self):
        base = "ware a 0 1 0 0\nware b 0 1 0 0\n"
        for row in ("ware a 0 1 0 0", "ware a 1 2 3 4", "ware b 5 1 0 0", "ware c 31 1 0 0", "ware c 0 0 0 0",
                    f"ware c {MOST} 1 0 0", "coming a 401 1", f"coming a {MOST} 1", "coming c 1 1", "coming c 0 0",
                    "part a b 0", "part a c 1", "part c a 1", "part c c 1", "want a 401 1", f"want a {MOST} 1",
                    "want c 1 1", "want c 0 0"):
            with self.subTest(row=row):
                self.assertRaises(NoShop, read_shop, base + row)
                self.assertRaises(NoShop, read_shop, f"{row}\n{base[:-1]}")
        self.assertRaises(NoShop, read_shop, base + "part a b 1\npart a b 1")
        self.assertRaises(NoShop, read_shop, base + "part a b 1\npart a a 1\npart a b 2")
        # Without the row they are shops.
        self.assertEqual(len(read_shop(base[:-1])[0]), 2)

    def test_no_wares(self):
        for text in ("want a 1 2", "coming a 1 2", "part a b 1", "part a a 1", "want a 0 0\ncoming a 0 0"):
            self.assertRaises(NoShop, read_shop, text)

    def test_bounds(self):
        rows = [f"ware {name} 30 {MOST} {MOST} {MOST}" for name in LETTERS[:12]]
        rows += [f"coming c 400 {MOST}"] * 12 + [f"part b {name} {MOST}" for name in LETTERS[2:8]]
        rows += [f"want a 400 {MOST}"] * 20
        asked = read_shop("\n".join(rows))
        self.assertIs(is_shop(asked), True)
        self.assertEqual(asked[0][1], ware("b", 30, MOST, MOST, MOST, (), tuple((name, MOST) for name in "cdefgh")))
        self.assertEqual(asked[0][2], ware("c", 30, MOST, MOST, MOST, ((400, MOST),) * 12))
        self.assertEqual(asked[1], (("a", 400, MOST),) * 20)
        for more in ("ware m 0 1 0 0", "coming c 0 0", "part b i 1", "want a 0 0"):
            self.assertRaises(NoShop, read_shop, "\n".join(rows + [more]))
            self.assertRaises(NoShop, read_shop, "\n".join([more] + rows))
        # Another ware has room for them.
        self.assertEqual(len(read_shop("\n".join(rows + ["coming d 0 0", "part d i 1"]))[0]), 12)

    def test_texts_with_faults(self):
        source = random.Random(702)
        seen = {NoText: 0, NoShop: 0, None: 0}
        shops = list(busy_shops(60, 703)) + list(full_shops(60, 704))
        for turn in range(4000):
            rows = shown_shop(source.choice(shops)).split("\n")
            self.spoil(rows, source)
            text = "\n".join(rows)
            refusal = None
            if not plain.has_form(text):
                refusal = NoText
            else:
                asked, names = plain.written(text)
                if not is_shop(asked) or not names <= {entry[0] for entry in asked[0]}:
                    refusal = NoShop
            seen[refusal] += 1
            with self.subTest(text=text):
                if refusal is None:
                    self.assertEqual(read_shop(text), asked)
                else:
                    self.assertRaises(refusal, read_shop, text)
        self.assertGreater(min(seen.values()), 300)

    def spoil(self, rows, source):
        """Changes, moves, drops or doubles some words or rows."""
        for turn in range(source.choice((0, 1, 1, 2))):
            place = source.randrange(len(rows))
            words = rows[place].split(" ")
            word = source.randrange(len(words))
            fault = source.randrange(7)
            if fault == 0:
                rows.insert(source.randrange(len(rows) + 1), rows[place])
            elif fault == 1 and len(rows) > 1:
                del rows[place]
            elif fault == 2:
                rows.append(rows.pop(place))
            elif fault == 3:
                words[word] = source.choice(("0", "1", "31", "401", "01", "a", "q", "want", "", "-1", "7" * 61))
                rows[place] = " ".join(words)
            elif fault == 4:
                words.insert(word, source.choice(("0", "a", "")))
                rows[place] = " ".join(words)
            elif fault == 5:
                sign = source.randrange(len(rows[place]))
                rows[place] = rows[place][:sign] + source.choice(" \n\ta0Z") + rows[place][sign + 1:]
            else:
                rows[place] = rows[place] + source.choice((" ", "0", "\n", "\nwant q 0 0"))


class Shown(unittest.TestCase):
    def test_the_order_of_rows(self):
        self.assertEqual(shown_shop(SHOP), TEXT)
        self.assertEqual(shown_shop(((ware("a"),), ())), "ware a 0 1 0 0")
        mixed_up = ((ware("b", 1, 2, 3, 4, ((9, 1), (2, 3)), (("b", 5), ("a", 6))), ware("a", coming=((0, 0),))),
                    (("b", 7, 8), ("a", 3, 4)))
        self.assertEqual(shown_shop(mixed_up), "\n".join((
            "ware b 1 2 3 4", "coming b 9 1", "coming b 2 3", "part b b 5", "part b a 6", "ware a 0 1 0 0", "coming a 0 0",
            "want b 7 8", "want a 3 4")))

    def test_great_numbers(self):
        asked = ((ware("a", 30, MOST, MOST, MOST, ((400, MOST),)), ware("b", parts=(("a", MOST),))), (("b", 400, MOST),))
        nines = "9" * 60
        self.assertEqual(shown_shop(asked), "\n".join((
            f"ware a 30 {nines} {nines} {nines}", f"coming a 400 {nines}", "ware b 0 1 0 0", f"part b a {nines}",
            f"want b 400 {nines}")))
        self.assertEqual(read_shop(shown_shop(asked)), asked)

    def test_it_reads_as_the_same_shop(self):
        shops = list(busy_shops(100, 705)) + list(full_shops(100, 706, 12, 397, 30, 10 ** 58)) + list(small_shops())
        shops += list(random_shops(100, 707, True)) + list(random_shops(100, 708, False))
        source = random.Random(709)
        for asked in shops:
            text = shown_shop(asked)
            self.assertIs(text.__class__, str)
            self.assertTrue(plain.has_form(text))
            self.assertEqual(read_shop(text), asked)
            self.assertEqual(read_shop("\n".join(mixed(text.split("\n"), source))), asked)

    def test_shops_with_a_ring(self):
        for rows in RINGS:
            asked = shop(rows, [(rows[0].split()[0], 3, 4)])
            self.assertIsNotNone(ring(asked))
            self.assertEqual(read_shop(shown_shop(asked)), asked)


class HandedIn(unittest.TestCase):
    def test_the_same_each_time(self):
        self.assertEqual(read_shop(TEXT), read_shop(TEXT))
        self.assertEqual(shown_shop(SHOP), shown_shop(SHOP))
        self.assertRaises(NoShop, read_shop, "want a 1 2")
        self.assertEqual(read_shop(TEXT), SHOP)

    def test_kinds(self):
        def kinds(found):
            return tuple(kinds(entry) for entry in found) if found.__class__ is tuple else found.__class__
        self.assertEqual(kinds(read_shop(TEXT)), kinds(SHOP))


if __name__ == "__main__":
    unittest.main()
