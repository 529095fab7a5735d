"""On which days something is ordered at the least cost, and the values that show that no orders cost less."""

from needplan.errors import NoBuy, NoDay
from needplan.order import check_rings
from needplan.plans import plan_of
from needplan.wares import GIVES, LAG, PARTS, ware_of

# The places of the terms of a day.
SETUP = 0
PRICE = 1
KEEP = 2


def cost_of(wanted, terms, orders):
    cost = 0
    left = 0
    for amount, term, ordered in zip(wanted, terms, orders):
        left += ordered - amount
        if ordered < 0 or left < 0:
            return None
        if ordered > 0:
            if term[SETUP] is None:
                return None
            cost += term[SETUP] + term[PRICE] * ordered
        cost += term[KEEP] * left
    return cost


def right_values(wanted, terms, values):
    for amount, value in zip(wanted, values):
        if value < 0 or (amount == 0 and value > 0):
            return False
    return all([within_setup(wanted, terms, values, start) for start in range(len(wanted))])


def within_setup(wanted, terms, values, start):
    setup = terms[start][SETUP]
    if setup is None:
        return True
    paid = [max(0, value - cost) for value, cost in zip(values[start:], serving_row(wanted, terms, start))]
    return sum(paid) <= setup


def serving_row(wanted, terms, start):
    told = []
    each = terms[start][PRICE]
    for day in range(start, len(wanted)):
        told.append(each * wanted[day])
        each += terms[day][KEEP]
    return told


def cheapest(wanted, terms):
    costs = [0]
    starts = []
    # By the day of the last order: the least cost of all so far, and what it costs to bring one thing to the day.
    ways = {}
    each = {}
    for day, amount in enumerate(wanted):
        if terms[day][SETUP] is not None:
            ways[day] = costs[day] + terms[day][SETUP]
            each[day] = terms[day][PRICE]
        for start in each:
            ways[start] += each[start] * amount
        last = cheapest_start(ways, amount)
        starts.append(last)
        costs.append(costs[day] if last is None else ways[last])
        for start in list(each):
            each[start] += terms[day][KEEP]
    return (costs[-1], orders_by(wanted, starts), rises(costs))


def rises(costs):
    # What each day adds to the least cost is its right value. From any start up to any day these values, less what
    # serving costs, come to at most the setup, since the costs are the least. And none above what serving costs
    # follows one below: the day from which that one is served costs less a thing, by as much, from then on.
    return [after - ahead for ahead, after in zip(costs, costs[1:])]


def cheapest_start(ways, amount):
    if amount == 0:
        return None
    if not ways:
        raise NoDay("something is wanted ahead of the first day for which it can be ordered")
    return min(ways, key=lambda start: ways[start])


def orders_by(wanted, starts):
    told = [0] * len(wanted)
    day = len(wanted) - 1
    while day >= 0:
        start = starts[day]
        if start is not None:
            told[start] = sum(wanted[start:day + 1])
            day = start
        day -= 1
    return told


def bought(shop, name, terms):
    check_rings(shop)
    ware = ware_of(shop, name)
    if ware[PARTS]:
        raise NoBuy(f"{name} is made of parts")
    wanted = [lots * ware[GIVES] for lots in plan_of(shop)[name]]
    return cheapest(wanted, terms_from(terms, ware[LAG]))


def terms_from(terms, first):
    told = []
    for day, term in enumerate(terms):
        setup = term[SETUP] if day >= first else None
        told.append((setup, term[PRICE], term[KEEP]))
    return told
