"""Rings among parts, and the order in which wares are worked."""

from needplan.errors import Ring
from needplan.wares import LAG, NAME, names_of, part_names, ware_of


def without_ends(parts):
    left = {}
    for name in parts:
        going_on = [part for part in parts[name] if part in parts]
        if going_on:
            left[name] = going_on
    return left


def endless_parts(shop):
    parts = {}
    for ware in shop[0]:
        parts[ware[NAME]] = part_names(ware)
    # Every way down without a ring ends within as many steps as there are wares.
    for turn in range(len(shop[0])):
        parts = without_ends(parts)
    return parts


def ring(shop):
    parts = endless_parts(shop)
    if not parts:
        return None
    # Each ware left has a part left, so a way down must come back to a ware that it met.
    way = []
    name = list(parts)[0]
    while name not in way:
        way.append(name)
        name = parts[name][0]
    # What was met ahead of that ware only leads into the ring.
    return way[way.index(name):]


def check_rings(shop):
    found = ring(shop)
    if found is not None:
        names = " ".join(found)
        raise Ring(f"a ring of parts: {names}")


def levels(shop):
    check_rings(shop)
    told = {}
    for name in names_of(shop):
        told[name] = 0
    # The longest way down has fewer steps than there are wares, so these turns settle all.
    for turn in range(len(shop[0])):
        for ware in shop[0]:
            for part in part_names(ware):
                told[part] = max(told[part], told[ware[NAME]] + 1)
    return told


def worked(shop):
    level_of = levels(shop)
    # sorted leaves those of one level as they stand in the shop.
    return sorted(names_of(shop), key=lambda name: level_of[name])


def times(shop):
    told = {}
    # Backwards, since a ware's parts all stand behind it in the worked order.
    for name in reversed(worked(shop)):
        ware = ware_of(shop, name)
        told[name] = ware[LAG] + max([told[part] for part in part_names(ware)], default=0)
    return told
