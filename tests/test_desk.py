"""Points 24 and 25: what a desk is told and answers; points 2, 3 and 6 of it."""

import random
import unittest

import plain
from needplan.desk import Desk
from needplan.errors import NeedError, NoBuy, NoDay, NoName, NoPlan, NoShop, NoText, Ring
from needplan.shifts import late, most
from needplan.texts import shown_shop
from needplan.wares import is_shop
from samples import BIG, RINGS, busy_shops, full_shops, has_ring, no_texts, shop, ware

MOST = 10 ** 60 - 1

DOORS = "\n".join((
    "ware iron 7 100 20 60", "coming iron 3 100", "ware bolt 2 50 0 0", "part bolt iron 10", "ware door 1 1 0 1",
    "part door bolt 8", "part door iron 4", "want door 5 3"))
# A want that can't be met makes it short: no bolt comes on day 1.
SHORT = DOORS + "\nwant door 2 2"
LOOSE = "ware a 0 1 0 0"
# A ware with parts, one without, and as many wants as there may be.
FULL = "\n".join(["ware made 1 1 0 0", "part made b 1", "ware b 1 1 0 0"] + ["want b 1 1"] * 20)
RING = "ware a 0 1 0 0\npart a b 1\nware b 0 1 0 0\npart b a 1"

ROWS = ["want door 9 1", "drop 0", "plan", "late", "most door 2", "stock iron", "serves bolt 4", "buy iron 9 2 1"]


def desk_with(text):
    desk = Desk()
    if desk.tell("shop\n" + text) != "ok":
        raise AssertionError(text)
    return desk


class Told(unittest.TestCase):
    def answers(self, text, pairs):
        desk = desk_with(text)
        for row, answer in pairs:
            found = desk.tell(row)
            self.assertEqual(found, answer, row)
            self.assertIs(found.__class__, str)

    def test_doors(self):
        self.answers(DOORS, (
            ("plan", "door 5:2\nbolt 4:1"), ("late", "0"), ("most door 2", "1"), ("most door 10", "any"),
            ("stock iron", "60 60 50 150 142 142"), ("stock bolt", "0 0 0 0 34 34"), ("stock door", "1 1 1 1 1 0"),
            ("serves bolt 4", "0"), ("serves door 5", "0"), ("serves iron 3", ""), ("buy iron 9 2 1", "0"),
            ("want door 9 1", "ok"), ("plan", "door 5:2 9:1\nbolt 4:1"), ("serves bolt 4", "0 1"), ("serves door 9", "1"),
            ("drop 0", "ok"), ("plan", ""), ("serves door 9", ""), ("drop 0", "ok"), ("plan", ""), ("stock iron", "60")))

    def test_plan(self):
        self.answers("ware b 2 3 0 0\nware a 1 2 0 0\npart a b 4\nwant a 3 5\nwant a 4 1\nwant a 9 100\nwant b 2 1", (
            ("plan", "a 3:3 9:50\nb 2:5 8:66"),))
        self.answers("ware c 0 1 0 0\nware a 0 1 0 0\nware b 0 1 0 0\nwant a 2 3\nwant c 11 12\nwant c 0 7", (
            ("plan", "c 0:7 11:12\na 2:3"),))

    def test_plan_in_the_worked_order(self):
        self.answers("ware c 0 1 0 0\nware b 0 1 0 0\npart b c 1\nware a 0 1 0 0\npart a b 1\nware d 0 1 0 0\n"
                     "want a 0 1\nwant d 0 1", (("plan", "a 0:1\nd 0:1\nb 0:1\nc 0:1"),))

    def test_plan_without_lots(self):
        self.answers(LOOSE, (("plan", ""),))
        self.answers("ware a 5 1 2 9\nwant a 3 7\nwant a 1 0", (("plan", ""), ("stock a", "9 9 9 2")))

    def test_plan_short(self):
        self.answers(SHORT, (("plan", "short bolt 1 1"), ("late", "1"), ("most door 0", "none"), ("most iron 400", "none"),
                             ("drop 1", "ok"), ("plan", "door 5:2\nbolt 4:1"), ("want door 2 2", "ok"),
                             ("plan", "short bolt 1 1")))
        self.answers("ware a 3 2 0 0\nwant a 2 9\nwant a 1 0", (("plan", "short a 2 5"), ("late", "1")))

    def test_late(self):
        self.answers(LOOSE, (("late", "0"),))
        for lag in range(0, 31, 5):
            self.answers(f"ware a {lag} 1 0 0\nwant a 0 1", (("late", str(lag)),))
        self.answers("ware a 12 1 0 0\npart a b 1\nware b 30 1 0 0\nwant a 0 1", (("late", "42"),))
        self.answers("ware a 30 1 0 0\npart a b 1\nware b 30 1 0 0\nwant a 50 1\nwant a 400 1", (("late", "10"),))

    def test_never(self):
        self.answers("ware a 1 1 1 0", (("late", "never"), ("plan", "short a 0 1"), ("most a 400", "none")))
        self.answers("ware a 0 1 5 0\npart a b 1\nware b 1 1 0 4\nwant b 400 1", (("late", "never"),))

    def test_most(self):
        self.answers("ware a 3 5 2 9\ncoming a 1 4\nwant a 2 1", (
            ("most a 0", "7"), ("most a 1", "10"), ("most a 2", "10"), ("most a 3", "any"), ("most a 400", "any")))
        self.answers("ware a 1 1 0 0", (("most a 0", "0"), ("most a 1", "any")))

    def test_most_beside_twenty_wants(self):
        self.answers(FULL, (("most made 1", "0"), ("most made 2", "any"), ("most b 0", "0"), ("most b 1", "any")))

    def test_stock(self):
        self.answers("ware a 1 4 3 5\ncoming a 2 6\nwant a 1 3\nwant a 3 10\nwant a 5 0", (
            ("stock a", "5 6 12 6 6 6"), ("plan", "a 1:1 3:1")))
        self.answers("ware a 0 1 0 0", (("stock a", "0"),))

    def test_serves(self):
        self.answers("ware b 1 10 0 0\nware a 1 1 0 1\npart a b 1\nwant a 2 1\nwant b 5 2\nwant a 4 1\nwant a 3 1", (
            ("plan", "a 3:1 4:1\nb 2:1"), ("serves b 2", "1 2 3"), ("serves a 3", "3"), ("serves a 4", "2"),
            ("serves a 2", ""), ("serves b 3", ""), ("serves a 5", ""), ("serves a 6", ""), ("serves a 400", ""),
            ("serves b 400", ""), ("serves a 0", "")))

    def test_buy(self):
        text = "ware a 2 10 0 5\nwant a 2 15\nwant a 3 1\nwant a 6 9\nwant a 8 20\nwant a 9 5"
        self.answers(text, (
            ("plan", "a 2:1 3:1 8:2 9:1"), ("buy a 0 1 1", "50 2:10 3:10 8:20 9:10"), ("buy a 100 0 0", "100 2:50"),
            ("buy a 35 2 1", "190 2:20 8:30"),
            (f"buy a 0 {MOST} 1", f"{50 * MOST} 2:10 3:10 8:20 9:10")))
        self.answers(LOOSE, (("buy a 3 2 1", "0"),))

    def test_want(self):
        self.answers("ware b 0 1 0 0\nware a 0 1 0 0\nwant a 1 1", (
            ("want b 3 2", "ok"), ("want a 400 5", "ok"), ("want a 0 0", "ok"), (f"want a 1 {MOST}", "ok"),
            ("plan", f"b 3:2\na 1:{MOST + 1} 400:5"), ("serves a 1", "0 4"), ("serves b 3", "1"), ("serves a 400", "2"),
            ("want b 3 1", "ok"), ("serves b 3", "1 5")))

    def test_drop(self):
        text = "ware a 0 1 0 0\n" + "\n".join(f"want a {day} 1" for day in range(5))
        for number in range(5):
            desk = desk_with(text)
            self.assertEqual(desk.tell(f"drop {number}"), "ok")
            days = [day for day in range(5) if day != number]
            self.assertEqual(desk.tell("plan"), "a " + " ".join(f"{day}:1" for day in days))
            for place, day in enumerate(days):
                self.assertEqual(desk.tell(f"serves a {day}"), str(place))
            self.assertRaises(NoDay, desk.tell, "drop 4")
        desk = desk_with(text)
        for turn in range(5):
            self.assertEqual(desk.tell("drop 0"), "ok")
        self.assertRaises(NoDay, desk.tell, "drop 0")
        self.assertEqual(desk.tell("plan"), "")

    def test_twenty_wants(self):
        desk = desk_with("ware a 0 1 0 0")
        for number in range(20):
            self.assertEqual(desk.tell(f"want a {number} 1"), "ok")
        self.assertRaises(NoShop, desk.tell, "want a 20 1")
        self.assertEqual(desk.tell("most a 0"), "any")
        self.assertEqual(desk.tell("drop 19"), "ok")
        self.assertEqual(desk.tell("want a 30 1"), "ok")
        self.assertRaises(NoShop, desk.tell, "want a 20 1")
        self.assertEqual(desk.tell("plan"), "a " + " ".join(f"{day}:1" for day in [*range(19), 30]))

    def test_another_shop(self):
        desk = desk_with(DOORS)
        self.assertEqual(desk.tell("shop\nware a 0 1 0 0\nwant a 2 3"), "ok")
        self.assertEqual(desk.tell("plan"), "a 2:3")
        self.assertRaises(NoName, desk.tell, "stock iron")
        self.assertEqual(desk.tell("shop\n" + DOORS), "ok")
        self.assertEqual(desk.tell("plan"), "door 5:2\nbolt 4:1")

    def test_wares_named_like_the_words(self):
        desk = desk_with("\n".join(f"ware {row.split()[0]} 0 1 0 0" for row in ROWS) + "\nware shop 0 1 0 0")
        self.assertEqual(desk.tell("want want 1 2"), "ok")
        self.assertEqual(desk.tell("want shop 1 3"), "ok")
        self.assertEqual(desk.tell("plan"), "want 1:2\nshop 1:3")
        self.assertEqual(desk.tell("stock stock"), "0 0")
        self.assertEqual(desk.tell("serves shop 1"), "1")
        self.assertEqual(desk.tell("most most 1"), "any")
        self.assertEqual(desk.tell("buy shop 1 1 1"), "4 1:3")

    def test_great_numbers(self):
        names = "abcdefghijkl"
        rows = [f"ware {name} 0 1 0 0" for name in names]
        rows += [f"part {name} {below} {MOST}" for name, below in zip(names, names[1:])] + [f"want a 0 {MOST}"]
        desk = desk_with("\n".join(rows))
        self.assertEqual(desk.tell("plan"), "\n".join(f"{name} 0:{MOST ** (place + 1)}" for place, name in enumerate(names)))
        self.assertEqual(desk.tell(f"buy l {MOST} {MOST} {MOST}"), f"{MOST + MOST ** 13} 0:{MOST ** 12}")
        desk = desk_with(f"ware a 1 1 0 {MOST}\nwant a 0 {BIG}")
        self.assertEqual(desk.tell("most a 0"), str(MOST - BIG))
        self.assertEqual(desk.tell("stock a"), str(MOST - BIG))


class Refused(unittest.TestCase):
    def refused(self, refusal, text, rows):
        """Each row is refused, and all is answered as by a desk that never heard it."""
        for row in rows:
            desk = desk_with(text)
            with self.subTest(row=row):
                with self.assertRaises(NeedError) as found:
                    desk.tell(row)
                self.assertIs(found.exception.__class__, refusal)
                self.assertEqual(answers(desk, text), answers(desk_with(text), text))

    def test_no_text(self):
        for found in no_texts() + [b"plan", bytearray(b"plan"), ["plan"], ("plan",), ["want", "a", 1, 2], {"plan": 1}]:
            self.assertRaises(NoText, Desk().tell, found)
            self.assertRaises(NoText, desk_with(DOORS).tell, found)

    def test_no_form(self):
        rows = ["", " ", "\n", "plan ", " plan", "plan\n", "\nplan", "plan plan", "plan iron", "plan 1", "Plan", "PLAN",
                "plans", "plan\t", "plan\r", "late ", " late", "late\n", "late 1", "late iron", "later", "shop", "shop ",
                "shop \n" + DOORS, " shop\n" + DOORS, "Shop\n" + DOORS, "shop " + LOOSE, "shop\r\n" + LOOSE, "shop" + LOOSE,
                "shops\n" + LOOSE, "\nshop\n" + LOOSE, DOORS, LOOSE, "ware x 0 1 0 0", "part door iron 1",
                "coming iron 1 1", "ok", "short", "never", "iron", "iron 1", "0", "help", "quit", "exit", "none", "any",
                "want", "want ", "want door", "want door 1", "want door 1 ", "want door 1 2 3", "want  door 1 2",
                "want door  1 2", "want door 1  2", "want door 1 2 ", " want door 1 2", "want door 1 2\n",
                "want door 1 2\nwant door 1 2", "want door\t1 2", "want door 01 2", "want door 1 02", "want door -1 2",
                "want door 1 -2", "want door +1 2", "want door 1 2.0", "want door x 2", "want door 1 x", "want Door 1 2",
                "want 1 door 2", "want doorsdoor 1 2", "want door1 1 2", f"want door 1 {MOST + 1}", f"want door {MOST + 1} 1",
                "want door 1 \u0662", "want door \uff11 2", "wants door 1 2",
                "drop", "drop ", "drop x", "drop -1", "drop 00", "drop +0", "drop 0 ", "drop 0 0", " drop 0", "drop  0",
                "drop door", "drop 0\n", f"drop {MOST + 1}", "drop \u0660", "drop 0.0", "drop -0",
                "most", "most door", "most door ", "most door 1 1", "most door x", "most door 01", "most door -1",
                "most Door 1", "most 1 door", "most  door 1", "most door  1", "most door 1 ", "most door 1\n",
                f"most door {MOST + 1}", "most  1", "stock", "stock ", "stock iron ", "stock  iron", "stock iron 1",
                "stock iron bolt", "stock Iron", "stock 1", "stock iron\n", "stock\niron", "stock ironironi",
                "serves", "serves bolt", "serves bolt ", "serves bolt x", "serves bolt 04", "serves bolt -4",
                "serves bolt 4 4", "serves bolt 4 ", "serves Bolt 4", "serves 4 bolt", "serves bolt 4\n",
                f"serves bolt {MOST + 1}", "serve bolt 4", "buy", "buy iron", "buy iron 1", "buy iron 1 1", "buy iron 1 1 ",
                "buy iron 1 1 1 1", "buy iron 1 1 1 ", "buy iron  1 1 1", "buy iron 01 1 1", "buy iron 1 01 1", "buy iron 1 1 01",
                "buy iron -1 1 1", "buy iron 1 -1 1", "buy iron 1 1 -1", "buy iron None 1 1", "buy iron x 1 1", "buy Iron 1 1 1",
                "buy 1 iron 1 1", "buy iron 1 1 1\n", f"buy iron {MOST + 1} 1 1", f"buy iron 1 {MOST + 1} 1",
                f"buy iron 1 1 {MOST + 1}"]
        self.refused(NoText, DOORS, rows)
        for row in rows:
            self.assertRaises(NoText, Desk().tell, row)
            self.assertRaises(NoText, desk_with(SHORT).tell, row)

    def test_no_shop_is_kept(self):
        for row in ROWS + ["want zzz 1 1", "want zzz 401 1", "drop 99", "most zzz 401", "stock zzz", "serves zzz 401",
                           "buy zzz 1 1 1", "most door 401"]:
            self.assertRaises(NoShop, Desk().tell, row)
        desk = Desk()
        for row in ROWS:
            self.assertRaises(NoShop, desk.tell, row)
        self.assertEqual(desk.tell("shop\n" + DOORS), "ok")
        for row in ROWS:
            desk.tell(row)

    def test_no_name(self):
        rows = ["want zzz 1 1", "most zzz 1", "stock zzz", "serves zzz 1", "buy zzz 1 1 1", "stock doo", "stock doors",
                "want zzz 401 1", "most zzz 401", "serves zzz 401", f"want zzz {MOST} 0"]
        for text in (DOORS, SHORT, FULL):
            self.refused(NoName, text, rows)

    def test_no_day(self):
        self.refused(NoDay, DOORS, ["want door 401 1", f"want iron {MOST} 1", "most door 401", "serves bolt 401",
                                    f"serves bolt {MOST}", f"most door {MOST}", "drop 1", "drop 2", "drop 400", f"drop {MOST}"])
        self.refused(NoDay, SHORT, ["want door 401 1", "most door 401", "serves bolt 401", "drop 2"])
        self.refused(NoDay, FULL, ["want b 401 1", "want made 500 1", "most b 401", "drop 20"])
        self.refused(NoDay, LOOSE, ["drop 0", "drop 1"])

    def test_day_400(self):
        desk = desk_with(DOORS)
        self.assertEqual(desk.tell("most door 400"), "any")
        self.assertEqual(desk.tell("serves door 400"), "")
        self.assertEqual(desk.tell("want door 400 1"), "ok")
        self.assertEqual(desk.tell("serves door 400"), "1")

    def test_a_twenty_first_want(self):
        self.refused(NoShop, FULL, ["want b 1 1", "want made 400 0", f"want b 0 {MOST}"])

    def test_no_buy(self):
        self.refused(NoBuy, DOORS, ["buy door 1 1 1", "buy bolt 0 0 0"])
        self.refused(NoBuy, SHORT, ["buy door 1 1 1", "buy bolt 0 0 0"])
        self.refused(NoBuy, FULL, ["buy made 1 1 1"])

    def test_no_plan(self):
        self.refused(NoPlan, SHORT, ["stock iron", "stock bolt", "stock door", "serves door 2", "serves iron 400",
                                     "serves bolt 0", "buy iron 1 1 1", "buy iron 0 0 0"])

    def test_shops(self):
        for refusal, found in (
                (NoText, ""), (NoText, " "), (NoText, "\n"), (NoText, "ware a"), (NoText, LOOSE + "\n"),
                (NoText, "\n" + LOOSE), (NoText, "shop\n" + LOOSE), (NoText, LOOSE + "\nplan"), (NoText, LOOSE + " "),
                (NoText, RING + "\n"), (NoText, RING + "\nwant a 1 02"), (NoText, "ware a 31 1 0 0\nware"),
                (NoText, RING + "\nware a 31 1 0 0\nware"), (NoShop, "want a 1 2"), (NoShop, "ware a 31 1 0 0"),
                (NoShop, LOOSE + "\n" + LOOSE), (NoShop, LOOSE + "\nwant b 1 1"), (NoShop, RING + "\nwant c 1 1"),
                (NoShop, RING + "\nware c 0 0 0 0"), (NoShop, FULL + "\nwant b 1 1"), (NoShop, RING + "\npart c a 1"),
                (NoShop, RING + "\nwant a 401 1"), (Ring, RING), (Ring, "ware a 0 1 0 0\npart a a 1"),
                (Ring, RING + "\nwant a 1 1"), (Ring, RING + "\nware c 1 1 1 0\nwant c 0 1")):
            with self.subTest(found=found):
                self.refused(refusal, DOORS, ["shop\n" + found])
                desk = Desk()
                self.assertRaises(refusal, desk.tell, "shop\n" + found)
                self.assertRaises(NoShop, desk.tell, "plan")

    def test_rings(self):
        for rows in RINGS:
            self.refused(Ring, DOORS, ["shop\n" + shown_shop(shop(rows))])


class Beside(unittest.TestCase):
    def test_two_desks(self):
        first, second, third = Desk(), Desk(), Desk()
        first.tell("shop\n" + DOORS)
        self.assertRaises(NoShop, second.tell, "plan")
        second.tell("shop\n" + DOORS)
        first.tell("want door 9 1")
        second.tell("drop 0")
        self.assertEqual(first.tell("plan"), "door 5:2 9:1\nbolt 4:1")
        self.assertEqual(second.tell("plan"), "")
        self.assertRaises(NoShop, third.tell, "plan")
        second.tell("shop\n" + LOOSE)
        self.assertEqual(first.tell("plan"), "door 5:2 9:1\nbolt 4:1")
        self.assertRaises(NoShop, third.tell, "late")

    def test_asking_changes_nothing(self):
        for text in (DOORS, SHORT, FULL, LOOSE):
            desk = desk_with(text)
            former = answers(desk, text)
            for turn in range(3):
                self.assertEqual(answers(desk, text), former)


def answers(desk, text):
    """What a desk answers to all that changes nothing, for the wares of the text and one more."""
    found = {}
    rows = ["plan", "late"]
    for name in {row.split(" ")[1] for row in text.split("\n")} | {"zzz"}:
        rows += [f"stock {name}", f"buy {name} 7 2 1"]
        rows += [f"{word} {name} {day}" for word in ("most", "serves") for day in (0, 1, 2, 5, 9, 401)]
    for row in rows:
        try:
            found[row] = desk.tell(row)
        except NeedError as refusal:
            found[row] = refusal.__class__
    return found


class Model:
    """A desk by the words of points 24 and 25, on the slow functions of the tests."""

    FORMS = {"want": "name day number", "drop": "place", "plan": "", "late": "", "most": "name day", "stock": "name",
             "serves": "name day", "buy": "name number number number"}

    def __init__(self):
        self.shop = None

    def refusal(self, row):
        if row.startswith("shop\n"):
            return self.refusal_of_shop(row[5:])
        word, *words = row.split(" ")
        found = words == [] if self.FORMS.get(word) == "" else word in self.FORMS and len(words) == len(
            self.FORMS[word].split(" "))
        if not found or not all(
                plain.re.fullmatch(plain.NAME if sort == "name" else plain.NUMBER, member)
                for sort, member in zip(self.FORMS[word].split(), words)):
            return NoText
        if self.shop is None:
            return NoShop
        members = dict(zip(self.FORMS[word].split(), words))
        if "name" in members and members["name"] not in self.names():
            return NoName
        if int(members.get("day", 0)) > 400 or int(members.get("place", -1)) >= len(self.shop[1]):
            return NoDay
        if word == "want" and len(self.shop[1]) == 20:
            return NoShop
        if word == "buy" and plain.entry_of(self.shop, members["name"])[6]:
            return NoBuy
        if word in ("stock", "serves", "buy") and plain.planned(self.shop)[0] == "short":
            return NoPlan
        return None

    def refusal_of_shop(self, text):
        if not plain.has_form(text):
            return NoText
        asked, names = plain.written(text)
        if not is_shop(asked) or not names <= {entry[0] for entry in asked[0]}:
            return NoShop
        return Ring if has_ring(asked) else None

    def names(self):
        return [entry[0] for entry in self.shop[0]]

    def answer(self, row):
        if row.startswith("shop\n"):
            self.shop = plain.written(row[5:])[0]
            return "ok"
        word, *words = row.split(" ")
        members = [int(member) if member.isdigit() else member for member in words]
        if word == "want":
            self.shop = (self.shop[0], self.shop[1] + (tuple(members),))
            return "ok"
        if word == "drop":
            wants = list(self.shop[1])
            del wants[members[0]]
            self.shop = (self.shop[0], tuple(wants))
            return "ok"
        found = plain.planned(self.shop)
        if word == "plan":
            return self.shown(found)
        if word == "late":
            return "never" if late(self.shop) is None else f"{late(self.shop)}"
        if word == "most":
            return f"{most(self.shop, *members)[-1]}"
        call = plain.stocks if word == "stock" else plain.serves
        return " ".join(f"{number}" for number in call(self.shop, found[1], *members))

    def shown(self, found):
        if found[0] == "short":
            return "short {} {} {}".format(*found[2:])
        rows = []
        for name in plain.order(self.shop):
            days = [f"{day}:{lots}" for day, lots in enumerate(found[1][name]) if lots]
            rows += [" ".join([name] + days)] if days else []
        return "\n".join(rows)

    def bought_right(self, row, answer):
        """Whether the answer names orders that will do, and their cost, and none costs less."""
        word, name, *terms = row.split(" ")
        name, lag, gives, floor, stock, coming, parts = plain.entry_of(self.shop, name)
        wanted = [lots * gives for lots in plain.planned(self.shop)[1][name]]
        setup, price, keep = map(int, terms)
        terms = [(setup if day >= lag else None, price, keep) for day in range(len(wanted))]
        cost, *orders = answer.split(" ")
        days = [int(entry.split(":")[0]) for entry in orders]
        ordered = [0] * len(wanted)
        for entry in orders:
            day, amount = entry.split(":")
            ordered[int(day)] = int(amount)
        return (days == sorted(set(days)) and all(ordered[day] > 0 for day in days)
                and plain.cost(wanted, terms, ordered) == int(cost) == plain.cheapest_of_choices(wanted, terms))


class Sessions(unittest.TestCase):
    def random_row(self, source, model, shops):
        names = model.names() if model.shop is not None else ["a", "b"]
        name = source.choice(names * 5 + ["zzz"])
        day = source.choice((*range(12), *range(12), 400, 401))
        number = source.choice((0, 1, 2, 5, 40))
        wants = len(model.shop[1]) if model.shop is not None else 0
        row = source.choice((
            "plan", "late", f"most {name} {day}", f"stock {name}", f"serves {name} {day}", f"serves {name} {day}",
            f"buy {name} {number} {source.randint(0, 3)} {source.randint(0, 3)}", f"want {name} {day % 14} {number}",
            f"want {name} {day % 14} {number}", f"drop {source.randint(0, wants)}", f"drop {source.randint(0, wants)}",
            "plan", "shop\n" + shown_shop(source.choice(shops))))
        if source.randint(0, 12) == 0:
            words = row.split(" ")
            words[source.randrange(len(words))] = source.choice(("x", "01", "", "401", "7"))
            row = " ".join(words)
        return row

    def test_sessions(self):
        shops = list(busy_shops(60, 801, 4)) + list(full_shops(30, 802, 4))
        shops += [shop(rows) for rows in RINGS[:8]] + [((ware("a", 1, 2, 0, 3),), (("a", 4, 1),) * 20)]
        seen = {}
        for seed in range(60):
            source = random.Random(seed)
            desk, model = Desk(), Model()
            for turn in range(40):
                row = self.random_row(source, model, shops)
                refusal = model.refusal(row)
                sort = row.split("\n")[0].split(" ")[0], refusal
                seen[sort] = seen.get(sort, 0) + 1
                with self.subTest(seed=seed, turn=turn, row=row, shop=model.shop):
                    if refusal is not None:
                        with self.assertRaises(NeedError) as found:
                            desk.tell(row)
                        self.assertIs(found.exception.__class__, refusal)
                    elif row.startswith("buy"):
                        self.assertTrue(model.bought_right(row, desk.tell(row)))
                    else:
                        self.assertEqual(desk.tell(row), model.answer(row))
        for word in ("shop", "want", "drop", "plan", "late", "most", "stock", "serves", "buy"):
            self.assertGreater(seen[(word, None)], 20, word)
        self.assertLessEqual({NoText, NoShop, NoName, NoDay, NoBuy, NoPlan, Ring}, {sort[1] for sort in seen})


if __name__ == "__main__":
    unittest.main()
