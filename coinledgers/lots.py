"""Lots: what came together, and in which order it is used up."""

from coinledgers.parts import part

LAST_FIRST = 1
DEAREST_FIRST = 2
CHEAPEST_FIRST = 3
ALL_AS_ONE = 4


# A lot is never changed: what is cut or made one is a new lot.
class Lot:
    def __init__(self, many, there, home):
        self.many = many
        self.there = there
        self.home = home


# What a use of lots took, in the order of use, and what it left, in the order of coming.
class Use:
    def __init__(self, used, left):
        self.used = used
        self.left = left


def sum_of(lots):
    many = sum([lot.many for lot in lots])
    there = sum([lot.there for lot in lots])
    home = sum([lot.home for lot in lots])
    return Lot(many, there, home)


# Two unlike costs a piece differ by at least 1 over the product of both how many,
# so at this scale their whole parts differ too, and like ones stay like.
def costs_a_piece(lots):
    most = max([abs(lot.many) for lot in lots])
    return [lot.home * most * most // lot.many for lot in lots]


def places_in_use_order(lots, rule):
    places = list(range(len(lots)))
    if rule == LAST_FIRST:
        return list(reversed(places))
    if rule == DEAREST_FIRST:
        costs = costs_a_piece(lots)
        return sorted(places, key=lambda place: -costs[place])
    if rule == CHEAPEST_FIRST:
        costs = costs_a_piece(lots)
        return sorted(places, key=lambda place: costs[place])
    return places


def cut_off(lot, many):
    return Lot(many, part(lot.there, many, lot.many), part(lot.home, many, lot.many))


def less(lot, taken):
    return Lot(lot.many - taken.many, lot.there - taken.there, lot.home - taken.home)


# So many is of the lots' own sign, and no more than they are together: there is at least one lot.
def use(lots, rule, so_many):
    standing = [sum_of(lots)] if rule == ALL_AS_ONE else list(lots)
    used = []
    needed = so_many
    for place in places_in_use_order(standing, rule):
        if needed == 0:
            break
        lot = standing[place]
        taken = lot if abs(lot.many) <= abs(needed) else cut_off(lot, needed)
        used.append(taken)
        standing[place] = less(lot, taken)
        needed -= taken.many
    return Use(used, [lot for lot in standing if lot.many != 0])
