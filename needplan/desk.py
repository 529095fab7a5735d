"""A desk: it keeps a shop, is told texts and answers each with a text."""

from needplan.cheap import bought
from needplan.errors import NoDay, NoShop, NoText
from needplan.order import check_rings, worked
from needplan.pegs import serves
from needplan.plans import days_of, plan_of, planned, stocks
from needplan.shifts import late, most, with_want
from needplan.texts import read_shop, read_words
from needplan.wares import LAST_DAY, MOST_WANTS, ware_of

SHOP_ROW = "shop\n"

# What stands behind the first word of what a desk is told.
FORMS = {
    "want": ("name", "day", "number"),
    "drop": ("place",),
    "plan": (),
    "late": (),
    "most": ("name", "day"),
    "stock": ("name",),
    "serves": ("name", "day"),
    "buy": ("name", "number", "number", "number"),
}


class Desk:
    def __init__(self):
        self.kept = None

    def tell(self, text):
        if not isinstance(text, str):
            raise NoText("no text")
        if text.startswith(SHOP_ROW):
            self.kept = read_ringless(text[len(SHOP_ROW):])
            return "ok"
        words = text.split(" ")
        members = read_words(words[1:], FORMS.get(words[0]))
        check_told(self.kept, words[0], members)
        if words[0] == "want":
            self.kept = with_want(self.kept, members[0], members[1], members[2])
            return "ok"
        if words[0] == "drop":
            self.kept = without_want(self.kept, members[0])
            return "ok"
        return answer(self.kept, words[0], members)


def read_ringless(text):
    shop = read_shop(text)
    check_rings(shop)
    return shop


def check_told(shop, first, members):
    if shop is None:
        raise NoShop("no shop is kept")
    # A name stands ahead of the day in each form, so its refusal goes ahead too.
    for member, sort in zip(members, FORMS[first]):
        if sort == "name":
            ware_of(shop, member)
        if sort == "day" and member > LAST_DAY:
            raise NoDay(f"no day is later than {LAST_DAY}")
        if sort == "place" and member >= len(shop[1]):
            raise NoDay(f"no want has the number {member}")
    if first == "want" and len(shop[1]) >= MOST_WANTS:
        raise NoShop(f"no shop has more than {MOST_WANTS} wants")


def without_want(shop, place):
    return (shop[0], shop[1][:place] + shop[1][place + 1:])


def answer(shop, first, members):
    if first == "plan":
        return shown_plan(shop)
    if first == "late":
        days = late(shop)
        return "never" if days is None else str(days)
    if first == "most":
        # The amount, or the one word where none is told.
        return str(most(shop, members[0], members[1])[-1])
    if first == "stock":
        return shown_words(stocks(shop, plan_of(shop), members[0]))
    if first == "serves":
        return shown_words(serves(shop, plan_of(shop), members[0], members[1]))
    return shown_orders(shop, members[0], tuple(members[1:]))


def shown_plan(shop):
    found = planned(shop)
    if found[0] == "short":
        return shown_words(["short"] + list(found[2:]))
    rows = []
    for name in worked(shop):
        days = days_with(found[1][name])
        if days:
            rows.append(shown_words([name] + days))
    return "\n".join(rows)


def shown_orders(shop, name, term):
    found = bought(shop, name, [term] * days_of(shop))
    return shown_words([found[0]] + days_with(found[1]))


def days_with(row):
    return [f"{day}:{amount}" for day, amount in enumerate(row) if amount > 0]


def shown_words(words):
    return " ".join([str(word) for word in words])
