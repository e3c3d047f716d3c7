"""Nets of places and one-way links, and the links that enter sides."""

from itertools import combinations

from sparetrees.checks import is_between, is_lot, is_unlike_pair, need_between
from sparetrees.errors import BadNet, NoLot, NoNet, NoPlace, NoSide

FEWEST_PLACES = 2
MOST_PLACES = 10
MOST_LINKS = 60
MOST_ENTERING = 60


class Net:
    """Places, one of them the root, and one-way links between them."""

    def __init__(self, many, root, links):
        if not is_between(many, FEWEST_PLACES, MOST_PLACES):
            raise BadNet("many")
        if not is_between(root, 0, many - 1):
            raise BadNet("root")
        if not isinstance(links, tuple) or len(links) > MOST_LINKS:
            raise BadNet("links")
        for number, link in enumerate(links):
            if not is_unlike_pair(link, many):
                raise BadNet(number)
        self.many = many
        self.root = root
        self.links = links

    def __eq__(self, other):
        return (isinstance(other, Net) and self.many == other.many
                and self.root == other.root and self.links == other.links)


def need_net(thing):
    """Raise NoNet unless a thing is a Net."""
    if not isinstance(thing, Net):
        raise NoNet()


def need_lot(net, thing):
    """Raise NoLot unless a thing is a lot of the net's links."""
    if not is_lot(thing, len(net.links)):
        raise NoLot()


def need_other_place(net, thing):
    """Raise NoPlace unless a thing is a place other than the root."""
    if not is_between(thing, 0, net.many - 1) or thing == net.root:
        raise NoPlace()


def is_side(net, thing):
    """Whether a thing is a side of the net."""
    return is_lot(thing, net.many) and len(thing) > 0 and net.root not in thing


def lots_of(places):
    """The list, fewest first, of all lots of an ascending list of places but the empty one."""
    return [lot for size in range(1, len(places) + 1) for lot in combinations(places, size)]


def all_sides(net):
    """The list, fewest first, of all sides of the net."""
    return lots_of([place for place in range(net.many) if place != net.root])


def links_into(net, lot, places):
    """The list of the lot's links that enter a lot of places, which is not checked."""
    ends = net.links
    return [link for link in lot if ends[link][1] in places and ends[link][0] not in places]


def least_entered(net, lot, sides):
    """Those of some sides, in their order, that the fewest of the lot's links enter."""
    counts = [len(links_into(net, lot, side)) for side in sides]
    least = min(counts)
    return [side for side, count in zip(sides, counts) if count == least]


def entering(net, lot, side):
    """The lot of those of a lot of links that enter a side."""
    need_net(net)
    need_lot(net, lot)
    if not is_side(net, side):
        raise NoSide()
    return tuple(links_into(net, lot, side))


def every_link(net):
    """The lot of all links."""
    need_net(net)
    return tuple(range(len(net.links)))


def supply(net, lot):
    """The least number of a lot's links that enter some side."""
    need_net(net)
    need_lot(net, lot)
    return min([len(links_into(net, lot, side)) for side in all_sides(net)])


def bar(net, lot, many):
    """The first side, fewest first, that fewer than many of the lot's links enter, or None."""
    need_net(net)
    need_lot(net, lot)
    need_between(many, 0, MOST_ENTERING)
    for side in all_sides(net):
        if len(links_into(net, lot, side)) < many:
            return side
    return None


def is_bar(net, lot, many, thing):
    """Whether a thing is a side that fewer than many of the lot's links enter."""
    need_net(net)
    need_lot(net, lot)
    need_between(many, 0, MOST_ENTERING)
    return is_side(net, thing) and len(links_into(net, lot, thing)) < many


def tight_sides(net, lot):
    """The list, fewest first, of all sides that the fewest of the lot's links enter."""
    need_net(net)
    need_lot(net, lot)
    return least_entered(net, lot, all_sides(net))
