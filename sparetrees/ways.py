"""Ways from the root to a place, and the sides that let no more of them in."""

from sparetrees.checks import is_integer
from sparetrees.nets import all_sides, least_entered, need_lot, need_net, need_other_place


def ways(net, lot, place):
    """As many ways of the lot's links to a place as can be, no link being in two."""
    need_net(net)
    need_lot(net, lot)
    need_other_place(net, place)
    used = most_used(net, lot, place)
    found = []
    while len(links_from(net, used, net.root)) > 0:
        way, used = first_way(net, used, place)
        found.append(way)
    return tuple(found)


def most_used(net, lot, place):
    """The list of the links of as many ways to a place as can be, perhaps with rings."""
    used = []
    came = come_by(net, lot, used)
    while place in came:
        used = with_one_more(net, used, came, place)
        came = come_by(net, lot, used)
    return used


def come_by(net, lot, used):
    """By which link each place is come to, along links that are not used and back along used ones."""
    came = {net.root: None}
    waiting = [net.root]
    while len(waiting) > 0:
        here = waiting.pop(0)
        for link in lot:
            start, end = net.links[link]
            if link in used:
                start, end = end, start
            if start == here and end not in came:
                came[end] = link
                waiting.append(end)
    return came


def with_one_more(net, used, came, place):
    """The used links when one more way comes to the place."""
    added = []
    freed = []
    here = place
    while here != net.root:
        link = came[here]
        start, end = net.links[link]
        # Going back along a used link takes it out of the way that it was in.
        if link in used:
            freed.append(link)
            here = end
        else:
            added.append(link)
            here = start
    return [link for link in used if link not in freed] + added


def links_from(net, links, place):
    """The list of those of some links that leave a place."""
    return [link for link in links if net.links[link][0] == place]


def first_way(net, used, place):
    """A way to the place along used links, and the list of those that are still used then."""
    way = []
    here = net.root
    while here != place:
        link = links_from(net, used, here)[0]
        used = [other for other in used if other != link]
        here = net.links[link][1]
        ends = [net.links[other][1] for other in way]
        # A ring brings the way no nearer, and a way comes to no place twice.
        if here in ends:
            way = way[:ends.index(here) + 1]
        else:
            way = way + [link]
    return tuple(way), used


def is_way(net, lot, place, thing):
    """Whether a thing is a way of the lot's links to a place."""
    if not isinstance(thing, tuple):
        return False
    here = net.root
    passed = [here]
    for link in thing:
        if not is_integer(link) or link not in lot or net.links[link][0] != here:
            return False
        here = net.links[link][1]
        if here in passed:
            return False
        passed.append(here)
    return here == place


def are_ways(net, lot, place, thing):
    """Whether a thing is a tuple of ways of the lot's links to a place, no link being in two."""
    need_net(net)
    need_lot(net, lot)
    need_other_place(net, place)
    if not isinstance(thing, tuple):
        return False
    links = []
    for way in thing:
        if not is_way(net, lot, place, way):
            return False
        links.extend(way)
    return len(set(links)) == len(links)


def least_sides(net, lot, place):
    """The list, fewest first, of the sides with a place that the fewest of the lot's links enter."""
    need_net(net)
    need_lot(net, lot)
    need_other_place(net, place)
    return least_entered(net, lot, [side for side in all_sides(net) if place in side])


def nearest_side(net, lot, place):
    """Of the sides with a place that the fewest of the lot's links enter, the one within all others."""
    # What two of these sides both have is one, too: so the first one is within all.
    return least_sides(net, lot, place)[0]


def farthest_side(net, lot, place):
    """Of the sides with a place that the fewest of the lot's links enter, the one that holds all others."""
    # What one of two of these sides has is one, too: so the last one holds all.
    return least_sides(net, lot, place)[-1]
