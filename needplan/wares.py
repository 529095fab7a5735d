"""Names, wares and shops: what is one, told of anything at all, and what stands in them."""

from needplan.errors import NoName

LETTERS = "abcdefghijklmnopqrstuvwxyz"
MOST_LETTERS = 8
MOST_LAG = 30
LAST_DAY = 400
MOST_COMING = 12
MOST_PARTS = 6
MOST_WARES = 12
MOST_WANTS = 20

# The places of a ware's members.
NAME = 0
LAG = 1
GIVES = 2
FLOOR = 3
STOCK = 4
COMING = 5
PARTS = 6
MEMBERS = 7

# The places of a want's members.
WANT_NAME = 0
WANT_DAY = 1
WANT_AMOUNT = 2


def is_name(found):
    if not isinstance(found, str) or not 1 <= len(found) <= MOST_LETTERS:
        return False
    return all([sign in LETTERS for sign in found])


def is_whole(found):
    # Python counts True and False among the ints; here they are no whole numbers.
    return isinstance(found, int) and not isinstance(found, bool)


def is_from(found, least):
    return is_whole(found) and found >= least


def is_between(found, least, most):
    return is_from(found, least) and found <= most


def is_tuple(found, least, most):
    return isinstance(found, tuple) and least <= len(found) <= most


def are_unlike(names):
    # Counted, not put into a set: a text of an asker's own class may have no hash.
    return all([names.count(name) == 1 for name in names])


def is_arrival(found):
    return is_tuple(found, 2, 2) and is_between(found[0], 0, LAST_DAY) and is_from(found[1], 0)


def are_arrivals(found):
    return is_tuple(found, 0, MOST_COMING) and all([is_arrival(arrival) for arrival in found])


def is_part(found):
    return is_tuple(found, 2, 2) and is_name(found[0]) and is_from(found[1], 1)


def are_parts(found):
    if not is_tuple(found, 0, MOST_PARTS) or not all([is_part(part) for part in found]):
        return False
    return are_unlike([part[0] for part in found])


def is_ware(found):
    if not is_tuple(found, MEMBERS, MEMBERS):
        return False
    if not is_name(found[NAME]) or not is_between(found[LAG], 0, MOST_LAG) or not is_from(found[GIVES], 1):
        return False
    if not is_from(found[FLOOR], 0) or not is_from(found[STOCK], 0):
        return False
    return are_arrivals(found[COMING]) and are_parts(found[PARTS])


def are_wares(found):
    if not is_tuple(found, 1, MOST_WARES) or not all([is_ware(ware) for ware in found]):
        return False
    return are_unlike([ware[NAME] for ware in found])


def is_want(found):
    if not is_tuple(found, 3, 3):
        return False
    return is_name(found[0]) and is_between(found[1], 0, LAST_DAY) and is_from(found[2], 0)


def are_wants(found):
    return is_tuple(found, 0, MOST_WANTS) and all([is_want(want) for want in found])


def is_shop(found):
    if not is_tuple(found, 2, 2) or not are_wares(found[0]) or not are_wants(found[1]):
        return False
    names = names_of(found)
    return all([name in names for name in needed_names(found)])


def names_of(shop):
    return [ware[NAME] for ware in shop[0]]


def part_names(ware):
    return [part[0] for part in ware[PARTS]]


def needed_names(shop):
    names = [want[0] for want in shop[1]]
    for ware in shop[0]:
        names.extend(part_names(ware))
    return names


def ware_of(shop, name):
    for ware in shop[0]:
        if ware[NAME] == name:
            return ware
    raise NoName(f"no ware is called {name!r}")
