"""Rows: lists of whole numbers, one for each day from 0 on."""


def so_far(row):
    told = []
    total = 0
    for number in row:
        total += number
        told.append(total)
    return told


def lots_for(amount, gives):
    # Python rounds down, so the amount is turned round twice to round up: a lot is made whole or not at all.
    return max(0, -(-amount // gives))


def least_lots(have, need, gives, floor):
    told = []
    above_floor = -floor
    for comes, goes in zip(have, need):
        above_floor += comes - goes
        lots = lots_for(-above_floor, gives)
        above_floor += gives * lots
        told.append(lots)
    return told
