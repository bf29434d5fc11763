"""Deals: pieces that come to an account's lots, or go from them with a gain."""

from coinledgers.lots import Lot, sum_of, use
from coinledgers.parts import are_against, part, piece


# A gain has the price's part and the rate's.
class Gain:
    def __init__(self, price, rate):
        self.price = price
        self.rate = rate


# The lots as they stand behind a deal, and what was gained by it.
class Deal:
    def __init__(self, lots, gain):
        self.lots = lots
        self.gain = gain


def gain_sum(gains):
    return Gain(sum([gain.price for gain in gains]), sum([gain.rate for gain in gains]))


def gain_less(gain, other):
    return Gain(gain.price - other.price, gain.rate - other.rate)


def gain_of_lot(lot, brought_there, brought_home):
    gained = brought_home - lot.home
    if brought_there == 0:
        return Gain(gained, 0)
    price = part(brought_there - lot.there, brought_home, brought_there)
    return Gain(price, gained - price)


def gains_of_used(used, there, home):
    whole = sum_of(used).many
    gains = []
    before = 0
    for lot in used:
        behind = before + lot.many
        brought_there = -piece(there, before, behind, whole)
        brought_home = -piece(home, before, behind, whole)
        gains.append(gain_of_lot(lot, brought_there, brought_home))
        before = behind
    return gains


def deal(lots, rule, many, there, home):
    total = sum_of(lots).many
    if not are_against(many, total):
        return Deal(lots + [Lot(many, there, home)], Gain(0, 0))
    # Counted with the sign of what comes or goes, against that of what is held.
    closing = many if abs(many) <= abs(total) else -total
    used_there = piece(there, 0, closing, many)
    used_home = piece(home, 0, closing, many)
    lots_used = use(lots, rule, -closing)
    left = lots_used.left
    if closing != many:
        left = left + [Lot(many - closing, there - used_there, home - used_home)]
    return Deal(left, gain_sum(gains_of_used(lots_used.used, used_there, used_home)))
