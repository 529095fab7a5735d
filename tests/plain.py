"""What the document says of rows and plans, walked through by its words, slow and without the program."""

import itertools

from samples import level


def entry_of(asked, name):
    return {entry[0]: entry for entry in asked[0]}[name]


def order(asked):
    names = [entry[0] for entry in asked[0]]
    return sorted(names, key=lambda name: (level(asked, name), names.index(name)))


def days(asked):
    last = 0
    for want in asked[1]:
        if want[1] > last:
            last = want[1]
    return last + 1


def begun(asked, plan, name):
    row = [0] * days(asked)
    for day, lots in enumerate(plan[name]):
        start = day - entry_of(asked, name)[1]
        if start >= 0:
            row[start] += lots
    return row


def needs(asked, plan, name):
    """The needs by the wants and by the wares that the plan has so far."""
    row = [0] * days(asked)
    for wanted, day, amount in asked[1]:
        if wanted == name:
            row[day] += amount
    for taker, lag, gives, floor, stock, coming, parts in asked[0]:
        for day, lots in enumerate(plan.get(taker, ())):
            if day - lag >= 0:
                row[day - lag] += lots * dict(parts).get(name, 0)
    return row


def have(asked, name):
    """What there is, or comes, on each day without lots."""
    name, lag, gives, floor, stock, coming, parts = entry_of(asked, name)
    row = [sum(amount for day, amount in coming if day == asked_day) for asked_day in range(days(asked))]
    row[0] += stock
    return row


def stocks(asked, plan, name):
    gives = entry_of(asked, name)[2]
    there, gone = have(asked, name), needs(asked, plan, name)
    row = []
    for day in range(days(asked)):
        row.append(sum(there[:day + 1]) + gives * sum(plan[name][:day + 1]) - sum(gone[:day + 1]))
    return row


def faults(asked, plan):
    """Every fault, in the order in which they are found."""
    for name in order(asked):
        name, lag, gives, floor, stock, coming, parts = entry_of(asked, name)
        left = stocks(asked, plan, name)
        for day in range(days(asked)):
            if plan[name][day] > 0 and day < lag:
                yield ("early", name, day)
            if left[day] < floor:
                yield ("below", name, day)


def judged(asked, plan):
    return next(faults(asked, plan), ("good",))


def least_so_far(there, gone, gives, floor):
    """How many lots must have come by each day: for no day up to it may there be less than the floor."""
    lacking = [floor + goes - here for goes, here in zip(itertools.accumulate(gone), itertools.accumulate(there))]
    return [max(0, (most + gives - 1) // gives) for most in itertools.accumulate(lacking, max)]


def least_row(there, gone, gives, floor):
    total = least_so_far(there, gone, gives, floor)
    return [now - ahead for now, ahead in zip(total, [0] + total)]


def planned(asked):
    rows = {}
    for name in order(asked):
        name, lag, gives, floor, stock, coming, parts = entry_of(asked, name)
        row = least_row(have(asked, name), needs(asked, rows, name), gives, floor)
        for day in range(min(lag, len(row))):
            if row[day] > 0:
                return ("short", rows, name, day, row[day])
        rows[name] = row
    return ("plan", rows)


def keeping_plans(asked, cap, rows=None):
    """Every plan that keeps the shop, of all those with at most so many lots of a ware on a day."""
    rows = rows or {}
    names = order(asked)
    if len(rows) == len(names):
        yield rows
        return
    name, lag, gives, floor, stock, coming, parts = entry_of(asked, names[len(rows)])
    there, gone = have(asked, name), needs(asked, rows, name)
    early = min(lag, days(asked))
    for row in itertools.product(range(cap + 1), repeat=days(asked) - early):
        row = [0] * early + list(row)
        left = itertools.accumulate(here + gives * lots - goes for here, lots, goes in zip(there, row, gone))
        if min(left) >= floor:
            yield from keeping_plans(asked, cap, {**rows, name: row})
