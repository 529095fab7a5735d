"""Wants put off, how late a shop is, and how much more of a ware can be wanted."""

from needplan.order import check_rings, times
from needplan.plans import planned
from needplan.wares import WANT_AMOUNT, WANT_DAY, WANT_NAME, ware_of


def put_off(shop, days):
    check_rings(shop)
    later = [(want[WANT_NAME], want[WANT_DAY] + days, want[WANT_AMOUNT]) for want in shop[1]]
    return (shop[0], tuple(later))


def with_want(shop, name, day, amount):
    check_rings(shop)
    # For its refusal alone: a want of a name that no ware has would make no shop.
    ware_of(shop, name)
    return (shop[0], shop[1] + ((name, day, amount),))


def lets_plan(shop):
    return planned(shop)[0] == "plan"


def late(shop):
    # Floors must be kept from day 0 on, so no putting off helps where they alone can't be.
    if not lets_plan((shop[0], ())):
        return None
    # Put off by the greatest time, each want can be met by lots of its own, begun on day 0 or behind it.
    enough = max(times(shop).values())
    least = 0
    # The lots for wants can be put off with them, so every number greater than one that is enough is enough too.
    while least < enough:
        middle = (least + enough) // 2
        if lets_plan(put_off(shop, middle)):
            enough = middle
        else:
            least = middle + 1
    return enough


def most(shop, name, day):
    check_rings(shop)
    # For its refusal alone, which goes ahead of whether there is a plan.
    ware_of(shop, name)
    if not lets_plan(shop):
        return ("none",)
    # From its time on, a ware can be made from nothing in any amount.
    if day >= times(shop)[name]:
        return ("any",)
    return ("most", greatest_amount(shop, name, day))


def greatest_amount(shop, name, day):
    # On a day less than its time it, or something that it takes, can't be made any more, so the doubling ends.
    too_great = 1
    while lets_plan(with_want(shop, name, day, too_great)):
        too_great *= 2
    amount = too_great // 2
    while too_great - amount > 1:
        middle = (amount + too_great) // 2
        if lets_plan(with_want(shop, name, day, middle)):
            amount = middle
        else:
            too_great = middle
    return amount
