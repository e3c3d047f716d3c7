"""Which losses stop a place, and how many links can be lost before none can hear all."""

from itertools import combinations

from sparetrees.checks import is_lot, is_within
from sparetrees.errors import TooMany
from sparetrees.nets import every_link, is_side, links_into, need_lot, need_net, need_other_place, supply, tight_sides
from sparetrees.plans import need_plan, spare_of
from sparetrees.trees import all_choices, tree_way
from sparetrees.words import need_size

MOST_STOPS = 20000


def ways_to(plan, place):
    """The list, tree by tree, of the tuples of the links that lead to a place."""
    return [tree_way(plan.of_net, tree, place) for tree in plan.by_trees]


def is_stopped(plan, place, lost):
    """Whether a place is told no frame if a lot of links is lost for ever."""
    broken = [way for way in ways_to(plan, place) if len([link for link in way if link in lost]) > 0]
    return len(broken) > spare_of(plan)


def stopped(plan, lost):
    """The lot of the places at which no frame is told if a lot of links is lost for ever."""
    need_plan(plan)
    need_lot(plan.of_net, lost)
    return tuple([place for place in range(plan.of_net.many) if is_stopped(plan, place, lost)])


def need_few_stops(plan, place):
    """Raise TooMany where a place could be stopped in more ways than are let."""
    count = 1
    for way in ways_to(plan, place):
        count = count * (len(way) + 1)
    if count > MOST_STOPS:
        raise TooMany(MOST_STOPS)


def one_of_each(ways, many):
    """The list of the lots of one link of each of any so many ways, no two of which have one in common."""
    return [tuple(sorted(links)) for chosen in combinations(ways, many) for links in all_choices(chosen)]


def stops_at(plan, place):
    """The list of all least lots of links by the loss of which a place is stopped."""
    return sorted(one_of_each(ways_to(plan, place), spare_of(plan) + 1))


def stops(plan, place):
    """The list, fewest first, of all least lots of links by the loss of which a place is stopped."""
    need_plan(plan)
    need_other_place(plan.of_net, place)
    need_few_stops(plan, place)
    return stops_at(plan, place)


def least_stop(plan):
    """The first, fewest first, of the least lots of links by the loss of which some place is stopped."""
    need_plan(plan)
    net = plan.of_net
    places = [place for place in range(net.many) if place != net.root]
    for place in places:
        need_few_stops(plan, place)
    return min([stops_at(plan, place)[0] for place in places])


def greatest_spare(net, size):
    """The greatest spare with which some plan does, None if there is none for this size."""
    need_net(net)
    need_size(size)
    spare = supply(net, every_link(net)) - size
    return None if spare < 0 else spare


def harm(net, size):
    """A pair of a side and the fewest links by whose loss it is entered by fewer links than the size."""
    need_net(net)
    need_size(size)
    lot = every_link(net)
    side = tight_sides(net, lot)[0]
    links = links_into(net, lot, side)
    return (side, tuple(links[:max(0, len(links) - size + 1)]))


def is_harm(net, size, thing):
    """Whether a thing is a pair of a side and links that enter it, beside fewer others than the size."""
    need_net(net)
    need_size(size)
    if not isinstance(thing, tuple) or len(thing) != 2:
        return False
    side, lot = thing
    if not is_side(net, side) or not is_lot(lot, len(net.links)):
        return False
    links = links_into(net, every_link(net), side)
    return is_within(lot, links) and len(links) - len(lot) < size
