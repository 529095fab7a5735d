"""Shops to ask about, and things that are none."""

import decimal
import fractions
import random

LETTERS = "abcdefghijklmnopqrstuvwxyz"
BIG = 10 ** 40 - 1


class Odd:
    """Refuses to be compared, counted, hashed or walked."""

    def refuse(self, *args):
        raise RuntimeError("not to be asked")

    __eq__ = __ne__ = __lt__ = __le__ = __gt__ = __ge__ = refuse
    __len__ = __hash__ = __iter__ = __bool__ = __getitem__ = __contains__ = refuse
    __int__ = __index__ = __str__ = refuse


def no_whole_numbers():
    return [None, True, False, 1.0, 0.0, float("nan"), float("inf"), "1", "", b"1", (), (1,), [], [1], {}, {1},
            1j, decimal.Decimal(1), fractions.Fraction(1), object(), Odd(), int, len]


def no_texts():
    return [None, True, False, 0, 1, 1.5, b"a", bytearray(b"a"), ("a",), ["a"], {"a": 1}, {"a"}, (), [], {},
            object(), Odd(), str, len]


def no_tuples():
    return [None, True, False, 0, 7, 1.5, "", "a", b"a", [], {}, set(), frozenset(), range(2), object(), Odd(),
            tuple, len, iter(())]


def ware(name, lag=0, gives=1, floor=0, stock=0, coming=(), parts=()):
    return (name, lag, gives, floor, stock, coming, parts)


def put(thing, place, value):
    """The tuple with another value at this place."""
    return thing[:place] + (value,) + thing[place + 1:]


def shop(rows, wants=()):
    """A shop of rows 'name' or 'name lag part part ..', each part taken once."""
    wares = []
    for row in rows:
        words = row.split()
        lag = int(words[1]) if len(words) > 1 else 0
        wares.append(ware(words[0], lag, parts=tuple((part, 1) for part in words[2:])))
    return (tuple(wares), tuple(wants))


def chain(names, lag=1):
    """Each is made of the one behind it."""
    rows = [f"{name} {lag} {below}" for name, below in zip(names, names[1:])]
    return rows + [f"{names[-1]} {lag}"]


# Rows of shops, each with a ring at least.
RINGS = [
    ["a 0 a"],
    ["b", "a 0 b a"],
    ["a 0 b", "b 0 b"],
    ["a 0 b", "b 0 a"],
    ["b 0 a", "a 0 b", "c"],
    ["a 0 b", "b 0 c", "c 0 a"],
    ["a 0 c", "b 0 a", "c 0 b"],
    ["top 0 a", "a 0 b", "b 0 c", "c 0 b end", "end"],
    ["end", "top 0 end a", "a 0 end b", "b 0 end c", "c 0 end a"],
    ["a 0 a", "b 0 b", "c 0 c"],
    ["a 0 b", "b 0 a", "c 0 d", "d 0 c", "e 0 a c"],
    ["a 0 b c", "b 0 c a", "c 0 a b"],
    ["a 0 b", "b 0 c d", "c 0 a", "d 0 b"],
    [f"{LETTERS[place]} 0 {LETTERS[(place + 1) % 12]}" for place in range(12)],
    [f"{LETTERS[place]} 0 {LETTERS[(place + 5) % 12]}" for place in range(12)],
    [f"{LETTERS[place]} 0 {LETTERS[(place - 1) % 12]}" for place in range(12)],
    chain(LETTERS[:11]) + ["l 0 l"],
    chain(LETTERS[:11])[:10] + ["k 0 l", "l 0 k"],
]


def parts_of(asked):
    return {entry[0]: [part[0] for part in entry[6]] for entry in asked[0]}


def is_ring(asked, found):
    """Whether the list is a ring of the shop by the words of point 6."""
    parts = parts_of(asked)
    if not isinstance(found, list) or not found or len(set(found)) != len(found):
        return False
    if any(name not in parts for name in found):
        return False
    return all(name in parts[ahead] for ahead, name in zip(found, found[1:] + found[:1]))


def has_ring(asked):
    """Whether some ware is reached from itself by parts of parts."""
    parts = parts_of(asked)
    for start in parts:
        met, waiting = set(), list(parts[start])
        while waiting:
            name = waiting.pop()
            if name not in met:
                met.add(name)
                waiting.extend(parts[name])
        if start in met:
            return True
    return False


def level(asked, name):
    above = [other for other, parts in parts_of(asked).items() if name in parts]
    return 1 + max(level(asked, other) for other in above) if above else 0


def time(asked, name):
    lag = {entry[0]: entry[1] for entry in asked[0]}[name]
    return lag + max([time(asked, part) for part in parts_of(asked)[name]], default=0)


def small_shops():
    """Every way in which three wares can be parts of one another and of themselves."""
    names = ("a", "b", "c")
    for bits in range(512):
        wares = []
        for row, name in enumerate(names):
            taken = bits >> 3 * row & 7
            parts = tuple((part, 1) for place, part in enumerate(names) if taken >> place & 1)
            wares.append(ware(name, row + 1, parts=parts))
        yield (tuple(wares), ())


def random_shops(many, seed, ringless):
    """The same shops each time, of up to twelve wares, named and standing in no order."""
    source = random.Random(seed)
    for turn in range(many):
        count = source.randint(1, 12)
        names = ["".join(source.choices(LETTERS, k=7)) + LETTERS[place] for place in range(count)]
        source.shuffle(names)
        wares = []
        for place, name in enumerate(names):
            below = names[place + 1:] if ringless else names
            takes = source.sample(below, min(len(below), source.choice((0, 0, 0, 0, 1, 1, 2, 6))))
            wares.append(ware(name, source.randint(0, 30), parts=tuple((part, 2) for part in takes)))
        source.shuffle(wares)
        yield (tuple(wares), ((names[0], 3, 5),))


def full_shops(many, seed, count=6, last=12, lag=4, amount=9):
    """The same shops each time, without rings, with stock, floors, things on the way and wants of all sorts."""
    source = random.Random(seed)
    for turn in range(many):
        names = source.sample(LETTERS, source.randint(1, count))
        wares = []
        for place, name in enumerate(names):
            below = names[place + 1:]
            takes = source.sample(below, min(len(below), source.choice((0, 1, 1, 2, 3))))
            parts = tuple((part, source.randint(1, 3)) for part in takes)
            coming = tuple((source.randint(0, last + 3), source.randint(0, amount))
                           for arrival in range(source.choice((0, 0, 1, 2, 4))))
            floor = source.choice((0, 0, 0, source.randint(0, amount // 2)))
            stock = source.choice((0, floor, source.randint(floor, 2 * amount), source.randint(0, 9 * amount)))
            wares.append(ware(name, source.randint(0, lag), source.randint(1, 5), floor, stock, coming, parts))
        source.shuffle(wares)
        wants = tuple((source.choice(names), source.randint(0, last), source.choice((0, 1, source.randint(0, amount))))
                      for want in range(source.choice((0, 1, 1, 2, 3, 5))))
        yield (tuple(wares), wants)


def busy_shops(many, seed, count=5, last=9, lag=2, amount=7):
    """The same shops each time, without rings, with little stock and several late wants, so that most is made."""
    source = random.Random(seed)
    for turn in range(many):
        names = source.sample(LETTERS, source.randint(1, count))
        wares = []
        for place, name in enumerate(names):
            takes = source.sample(names[place + 1:], min(len(names) - place - 1, source.choice((0, 1, 2, 3))))
            parts = tuple((part, source.randint(1, 3)) for part in takes)
            coming = tuple((source.randint(0, last + 3), source.randint(0, amount))
                           for arrival in range(source.choice((0, 0, 1, 2, 5))))
            floor = source.choice((0, 0, source.randint(0, amount)))
            stock = floor + source.choice((0, 0, source.randint(0, amount)))
            wares.append(ware(name, source.randint(0, lag), source.randint(1, 5), floor, stock, coming, parts))
        source.shuffle(wares)
        wants = tuple((source.choice(names[:2] + names), source.randint(last // 2, last), source.randint(0, amount))
                      for want in range(source.randint(2, 8)))
        yield (tuple(wares), wants)


def changed(told):
    """Changes whatever can be changed in what is told, at every depth."""
    for entry in list(told.values()) if isinstance(told, dict) else told:
        if isinstance(entry, (tuple, list, dict)):
            changed(entry)
    if isinstance(told, list):
        told.append(-1)
        told[0] = "changed"
    if isinstance(told, dict):
        for name in list(told):
            told[name] = "changed"
        told["more"] = []
