"""What the document says of rows, plans, pegs, costs and texts, by its words, slow and without the program."""

import itertools
import re

from samples import level


def entry_of(asked, name):
    return {entry[0]: entry for entry in asked[0]}[name]


def order(asked):
    names = [entry[0] for entry in asked[0]]
    return sorted(names, key=lambda name: (level(asked, name), names.index(name)))


def days(asked):
    last = 0
    for want in asked[1]:
        if want[1] > last:
            last = want[1]
    return last + 1


def begun(asked, plan, name):
    row = [0] * days(asked)
    for day, lots in enumerate(plan[name]):
        start = day - entry_of(asked, name)[1]
        if start >= 0:
            row[start] += lots
    return row


def needs(asked, plan, name):
    """The needs by the wants and by the wares that the plan has so far."""
    row = [0] * days(asked)
    for wanted, day, amount in asked[1]:
        if wanted == name:
            row[day] += amount
    for taker, lag, gives, floor, stock, coming, parts in asked[0]:
        for day, lots in enumerate(plan.get(taker, ())):
            if day - lag >= 0:
                row[day - lag] += lots * dict(parts).get(name, 0)
    return row


def have(asked, name):
    """What there is, or comes, on each day without lots."""
    name, lag, gives, floor, stock, coming, parts = entry_of(asked, name)
    row = [sum(amount for day, amount in coming if day == asked_day) for asked_day in range(days(asked))]
    row[0] += stock
    return row


def stocks(asked, plan, name):
    gives = entry_of(asked, name)[2]
    there, gone = have(asked, name), needs(asked, plan, name)
    row = []
    for day in range(days(asked)):
        row.append(sum(there[:day + 1]) + gives * sum(plan[name][:day + 1]) - sum(gone[:day + 1]))
    return row


def faults(asked, plan):
    """Every fault, in the order in which they are found."""
    for name in order(asked):
        name, lag, gives, floor, stock, coming, parts = entry_of(asked, name)
        left = stocks(asked, plan, name)
        for day in range(days(asked)):
            if plan[name][day] > 0 and day < lag:
                yield ("early", name, day)
            if left[day] < floor:
                yield ("below", name, day)


def judged(asked, plan):
    return next(faults(asked, plan), ("good",))


def least_so_far(there, gone, gives, floor):
    """How many lots must have come by each day: for no day up to it may there be less than the floor."""
    lacking = [floor + goes - here for goes, here in zip(itertools.accumulate(gone), itertools.accumulate(there))]
    return [max(0, (most + gives - 1) // gives) for most in itertools.accumulate(lacking, max)]


def least_row(there, gone, gives, floor):
    total = least_so_far(there, gone, gives, floor)
    return [now - ahead for now, ahead in zip(total, [0] + total)]


def planned(asked):
    rows = {}
    for name in order(asked):
        name, lag, gives, floor, stock, coming, parts = entry_of(asked, name)
        row = least_row(have(asked, name), needs(asked, rows, name), gives, floor)
        for day in range(min(lag, len(row))):
            if row[day] > 0:
                return ("short", rows, name, day, row[day])
        rows[name] = row
    return ("plan", rows)


def keeping_plans(asked, cap, rows=None):
    """Every plan that keeps the shop, of all those with at most so many lots of a ware on a day."""
    rows = rows or {}
    names = order(asked)
    if len(rows) == len(names):
        yield rows
        return
    name, lag, gives, floor, stock, coming, parts = entry_of(asked, names[len(rows)])
    there, gone = have(asked, name), needs(asked, rows, name)
    early = min(lag, days(asked))
    for row in itertools.product(range(cap + 1), repeat=days(asked) - early):
        row = [0] * early + list(row)
        left = itertools.accumulate(here + gives * lots - goes for here, lots, goes in zip(there, row, gone))
        if min(left) >= floor:
            yield from keeping_plans(asked, cap, {**rows, name: row})


def loose_plan(asked, source):
    """A plan that keeps the shop, with some lots more than the least ones; None where it would be short."""
    rows = {}
    for name in order(asked):
        name, lag, gives, floor, stock, coming, parts = entry_of(asked, name)
        more = [source.choice((0, 0, 0, 1, 2)) if day >= lag else 0 for day in range(days(asked))]
        there = [here + gives * lots for here, lots in zip(have(asked, name), more)]
        row = least_row(there, needs(asked, rows, name), gives, floor)
        if any(row[:lag]):
            return None
        rows[name] = [lots + extra for lots, extra in zip(row, more)]
    return rows


def supplies(asked, plan, name):
    """Every supply as (key, label, amount); the keys rise in the order of point 17."""
    name, lag, gives, floor, stock, coming, parts = entry_of(asked, name)
    yield (0, 0, 0), ("stock",), stock
    for number, (day, amount) in enumerate(coming):
        if day < days(asked):
            yield (day, 1, number), ("coming", number), amount
    for day, lots in enumerate(plan[name]):
        yield (day, 2, 0), ("lots", day), lots * gives


def demands(asked, plan, name):
    """Every need as (key, label, amount); the keys begin with the day, the floor's with -1."""
    yield (-1, 0, 0), ("floor",), entry_of(asked, name)[3]
    for number, (wanted, day, amount) in enumerate(asked[1]):
        if wanted == name:
            yield (day, 0, number), ("want", number), amount
    for place, taker in enumerate(order(asked)):
        taker, lag, gives, floor, stock, coming, parts = entry_of(asked, taker)
        for day, lots in enumerate(plan[taker]):
            yield (day - lag, 1, place), ("part", taker, day), lots * dict(parts).get(name, 0)


def single_things(amounts):
    """Each thing by itself, as (day, label), in their order."""
    things = []
    for key, label, amount in sorted(amounts):
        things.extend([(key[0], label)] * amount)
    return things


def pegged_things(asked, plan, name):
    """Each thing supplied beside the thing needed to which it is pegged."""
    given = single_things(supplies(asked, plan, name))
    taken = single_things(demands(asked, plan, name))
    return list(itertools.zip_longest(given, taken, fillvalue=(None, ("left",))))


def pegs(asked, plan, name):
    things = [(supply[1], need[1]) for supply, need in pegged_things(asked, plan, name)]
    return [(*pair, len(list(group))) for pair, group in itertools.groupby(things)]


def serves(asked, plan, name, day):
    found = set()
    for supply, need, amount in pegs(asked, plan, name):
        if supply == ("lots", day) and need[0] == "want":
            found.add(need[1])
        if supply == ("lots", day) and need[0] == "part":
            found.update(serves(asked, plan, need[1], need[2]))
    return sorted(found)


def cost(wanted, terms, orders):
    """What orders cost by point 19; None where they are none."""
    ordered_so_far, wanted_so_far = list(itertools.accumulate(orders)), list(itertools.accumulate(wanted))
    if min(orders, default=0) < 0:
        return None
    if any(ordered < needed for ordered, needed in zip(ordered_so_far, wanted_so_far)):
        return None
    if any(order > 0 and term[0] is None for order, term in zip(orders, terms)):
        return None
    setups = sum(setup for order, (setup, price, keep) in zip(orders, terms) if order > 0)
    prices = sum(order * price for order, (setup, price, keep) in zip(orders, terms))
    keeps = sum(keep * (ordered_so_far[day] - wanted_so_far[day]) for day, (setup, price, keep) in enumerate(terms))
    return setups + prices + keeps


def serving(wanted, terms, start, day):
    """What it costs to serve the day from the start."""
    return wanted[day] * (terms[start][1] + sum(terms[between][2] for between in range(start, day)))


def right(wanted, terms, values):
    for day, value in enumerate(values):
        if value < 0 or value != 0 and wanted[day] == 0:
            return False
    for start, (setup, price, keep) in enumerate(terms):
        over = [values[day] - serving(wanted, terms, start, day) for day in range(start, len(wanted))]
        if setup is not None and sum(more for more in over if more > 0) > setup:
            return False
    return True


def cheapest_of_choices(wanted, terms):
    """The least cost over every choice of days with orders; None where no choice will do."""
    open_days = [day for day, term in enumerate(terms) if term[0] is not None]
    found = []
    for count in range(len(open_days) + 1):
        for chosen in itertools.combinations(open_days, count):
            total = sum(terms[start][0] for start in chosen)
            for day, amount in enumerate(wanted):
                shares = [serving(wanted, terms, start, day) for start in chosen if start <= day]
                if amount > 0:
                    total = None if total is None or not shares else total + min(shares)
            if total is not None:
                found.append(total)
    return min(found, default=None)


NUMBER = "(?:0|[1-9][0-9]{0,59})"
NAME = "[a-z]{1,8}"
ROW = re.compile(f"ware {NAME}(?: {NUMBER}){{4}}|(?:coming|want) {NAME} {NUMBER} {NUMBER}|part {NAME} {NAME} {NUMBER}")


def has_form(text):
    """Whether a text has the form of point 23."""
    return all(ROW.fullmatch(row) for row in text.split("\n"))


def written(text):
    """What a text of that form writes: a shop or something like it, and the names that its rows begin with."""
    rows = [[int(word) if word.isdigit() else word for word in row.split(" ")] for row in text.split("\n")]
    sorts = {"ware": [], "coming": [], "part": [], "want": []}
    for sort, *members in rows:
        sorts[sort].append(tuple(members))
    wares = []
    for entry in sorts["ware"]:
        coming = tuple((day, amount) for name, day, amount in sorts["coming"] if name == entry[0])
        parts = tuple((part, amount) for name, part, amount in sorts["part"] if name == entry[0])
        wares.append((*entry, coming, parts))
    return (tuple(wares), tuple(sorts["want"])), {row[1] for row in rows}
