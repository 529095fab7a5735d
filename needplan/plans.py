"""Plans: how many lots of each ware come on each day, what they need and leave, and the least of them."""

from needplan.errors import NoPlan
from needplan.order import check_rings, worked
from needplan.rows import least_lots, so_far
from needplan.wares import COMING, FLOOR, GIVES, LAG, NAME, PARTS, STOCK, WANT_AMOUNT, WANT_DAY, WANT_NAME, ware_of


def days_of(shop):
    check_rings(shop)
    return count_days(shop)


def begun(shop, plan, name):
    check_rings(shop)
    return begun_row(plan, ware_of(shop, name))


def needs(shop, plan, name):
    check_rings(shop)
    return needs_row(shop, plan, ware_of(shop, name))


def stocks(shop, plan, name):
    check_rings(shop)
    return stocks_row(shop, plan, ware_of(shop, name))


def judged(shop, plan):
    for name in worked(shop):
        fault = first_fault(shop, plan, ware_of(shop, name))
        if fault is not None:
            return fault
    return ("good",)


def planned(shop):
    plan = {}
    for name in worked(shop):
        ware = ware_of(shop, name)
        # All that takes the ware stands ahead of it in the worked order, so its needs are whole by now.
        lots = least_lots(arrivals_row(shop, ware), needs_row(shop, plan, ware), ware[GIVES], ware[FLOOR])
        day = first_early(lots, ware[LAG])
        if day is not None:
            return ("short", plan, name, day, lots[day])
        plan[name] = lots
    return ("plan", plan)


def plan_of(shop):
    found = planned(shop)
    if found[0] == "short":
        name = found[2]
        raise NoPlan(f"the shop is short of {name}")
    return found[1]


def count_days(shop):
    return 1 + max([want[WANT_DAY] for want in shop[1]], default=0)


def begun_row(plan, ware):
    lots = plan[ware[NAME]]
    # What would be begun ahead of day 0 drops out; nothing is begun for days behind the last one.
    return lots[ware[LAG]:] + [0] * min(ware[LAG], len(lots))


def needs_row(shop, plan, ware):
    told = wants_row(shop, ware)
    for taker in shop[0]:
        for part, amount in taker[PARTS]:
            if part == ware[NAME]:
                told = [goes + amount * lots for goes, lots in zip(told, begun_row(plan, taker))]
    return told


def wants_row(shop, ware):
    told = [0] * count_days(shop)
    for want in shop[1]:
        if want[WANT_NAME] == ware[NAME]:
            told[want[WANT_DAY]] += want[WANT_AMOUNT]
    return told


def arrivals_row(shop, ware):
    told = [0] * count_days(shop)
    told[0] = ware[STOCK]
    for day, amount in ware[COMING]:
        # What is on the way may come behind the shop's last day.
        if day < len(told):
            told[day] += amount
    return told


def stocks_row(shop, plan, ware):
    changes = []
    for comes, lots, goes in zip(arrivals_row(shop, ware), plan[ware[NAME]], needs_row(shop, plan, ware)):
        changes.append(comes + ware[GIVES] * lots - goes)
    return so_far(changes)


def first_fault(shop, plan, ware):
    early = first_early(plan[ware[NAME]], ware[LAG])
    for day, left in enumerate(stocks_row(shop, plan, ware)):
        if day == early:
            return ("early", ware[NAME], day)
        if left < ware[FLOOR]:
            return ("below", ware[NAME], day)
    return None


def first_early(lots, lag):
    for day, count in enumerate(lots):
        if day < lag and count > 0:
            return day
    return None
