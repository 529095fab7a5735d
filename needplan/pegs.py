"""Pegs: what each supply of a ware in a plan is for, and which wants its lots serve."""

from needplan.order import check_rings, worked
from needplan.plans import begun_row
from needplan.wares import COMING, FLOOR, GIVES, LAG, NAME, PARTS, STOCK, WANT_AMOUNT, WANT_DAY, WANT_NAME, ware_of


def pegs(shop, plan, name):
    check_rings(shop)
    ware = ware_of(shop, name)
    return pegged(supplies(plan, ware), needs_by_days(shop, plan, ware))


def serves(shop, plan, name, day):
    check_rings(shop)
    # For its refusal alone, as by pegs.
    ware_of(shop, name)
    served = {}
    # All that takes a ware stands ahead of it in the worked order, so what its takers serve is known when it is met.
    for met in worked(shop):
        for supply, need, amount in pegs(shop, plan, met):
            if supply[0] == "lots":
                numbers = served.setdefault((met, supply[1]), {})
                numbers.update(served_by(served, need))
    return sorted(served.get((name, day), {}))


def served_by(served, need):
    if need[0] == "want":
        return {need[1]: True}
    if need[0] == "part":
        return served[(need[1], need[2])]
    return {}


def supplies(plan, ware):
    told = [(("stock",), ware[STOCK])]
    for day, lots in enumerate(plan[ware[NAME]]):
        for number, arrival in enumerate(ware[COMING]):
            if arrival[0] == day:
                told.append((("coming", number), arrival[1]))
        told.append((("lots", day), lots * ware[GIVES]))
    return without_nothing(told)


def needs_by_days(shop, plan, ware):
    takers = takers_of(shop, plan, ware)
    told = [(("floor",), ware[FLOOR])]
    for day in range(len(plan[ware[NAME]])):
        for number, want in enumerate(shop[1]):
            if want[WANT_NAME] == ware[NAME] and want[WANT_DAY] == day:
                told.append((("want", number), want[WANT_AMOUNT]))
        for name, lag, takes in takers:
            told.append((("part", name, day + lag), takes[day]))
    return without_nothing(told)


def takers_of(shop, plan, ware):
    told = []
    for name in worked(shop):
        taker = ware_of(shop, name)
        for part, amount in taker[PARTS]:
            if part == ware[NAME]:
                takes = [lots * amount for lots in begun_row(plan, taker)]
                told.append((name, taker[LAG], takes))
    return told


def without_nothing(amounts):
    return [entry for entry in amounts if entry[1] > 0]


def pegged(supplied, needed):
    told = []
    lacking = [amount for need, amount in needed]
    place = 0
    for supply, amount in supplied:
        free = amount
        while free > 0 and place < len(needed):
            share = min(free, lacking[place])
            told.append((supply, needed[place][0], share))
            free -= share
            lacking[place] -= share
            if lacking[place] == 0:
                place += 1
        if free > 0:
            told.append((supply, ("left",), free))
    return told
