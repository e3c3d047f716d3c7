"""Lots of ties that can be parted into lots without rings, and the cheapest ones that are spanners."""

from sparetrees.checks import is_between, is_lot, need_between
from sparetrees.errors import Crossed, Crowded, NoLot, NoPrices, NotParted, NoTie
from sparetrees.nets import lots_of
from sparetrees.ties import Forests, first_crossed, need_web, take_each

MOST_PARTS = 10
MOST_PRICE = 1000000


def need_ties(web, thing):
    """Raise NoLot unless a thing is a lot of ties."""
    if not is_lot(thing, len(web.ties)):
        raise NoLot()


def ties_between(web, lot, places):
    """The list of those of a lot's ties that lie between some places."""
    return [tie for tie in lot if web.ties[tie][0] in places and web.ties[tie][1] in places]


def first_crowded(web, many, lot):
    """The first lot of places between which too many of the ties lie to be parted, None if there is none."""
    for places in lots_of(list(range(web.many))):
        if len(ties_between(web, lot, places)) > many * (len(places) - 1):
            return places
    return None


def can_part(web, many, lot):
    """Whether a lot of ties can be parted into so many lots without rings."""
    need_web(web)
    need_between(many, 1, MOST_PARTS)
    need_ties(web, lot)
    return first_crowded(web, many, lot) is None


def parted_forests(web, many, lot):
    """The Forests that took a lot of ties which can be parted."""
    forests = Forests(web, many)
    take_each(forests, lot)
    return forests


def parted(web, many, lot):
    """So many lots without rings into which a lot of ties is parted."""
    need_web(web)
    need_between(many, 1, MOST_PARTS)
    need_ties(web, lot)
    crowded = first_crowded(web, many, lot)
    if crowded is not None:
        raise Crowded(crowded)
    return parted_forests(web, many, lot).as_lots()


def closed_by(web, many, lot, tie):
    """The least lot, of a tie and ties of a lot, that can't be parted, None if all of them can."""
    if not can_part(web, many, lot):
        raise NotParted()
    if not is_between(tie, 0, len(web.ties) - 1) or tie in lot:
        raise NoTie()
    return parted_forests(web, many, lot).take(tie)


def need_prices(web, thing):
    """Raise NoPrices unless a thing is prices, one for each tie."""
    if not isinstance(thing, tuple) or len(thing) != len(web.ties):
        raise NoPrices()
    for price in thing:
        if not is_between(price, 0, MOST_PRICE):
            raise NoPrices()


def cheapest(web, prices, many):
    """The lot of ties that are taken by price and number, each with which they can still be parted."""
    need_web(web)
    need_prices(web, prices)
    need_between(many, 1, MOST_PARTS)
    by_price = sorted([(price, tie) for tie, price in enumerate(prices)])
    taken = take_each(Forests(web, many), [pair[1] for pair in by_price])
    if len(taken) < many * (web.many - 1):
        raise Crossed(first_crossed(web, many))
    return taken


def price_of(prices, lot):
    """What the ties of a lot cost together."""
    return sum([prices[tie] for tie in lot])


def is_cheapest(web, prices, many, thing):
    """Whether a thing is a lot of ties that is so many spanners, of the least price."""
    least = cheapest(web, prices, many)
    if not is_lot(thing, len(web.ties)) or len(thing) != len(least):
        return False
    return can_part(web, many, thing) and price_of(prices, thing) == price_of(prices, least)
