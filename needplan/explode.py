"""The lots that all wants take when they are made from nothing."""

from needplan.order import worked
from needplan.rows import lots_for
from needplan.wares import GIVES, PARTS, WANT_AMOUNT, WANT_NAME, ware_of


def explode(shop):
    names = worked(shop)
    needed = {}
    for name in names:
        needed[name] = 0
    for want in shop[1]:
        needed[want[WANT_NAME]] += want[WANT_AMOUNT]
    told = {}
    # All that takes a ware stands ahead of it in the worked order, so its sum is whole when it is met.
    for name in names:
        ware = ware_of(shop, name)
        told[name] = lots_for(needed[name], ware[GIVES])
        for part, amount in ware[PARTS]:
            needed[part] += told[name] * amount
    return told
