"""Links that carry more than one word a beat: how much comes to all places, and by which trees."""

from sparetrees.checks import is_between, is_integer, need_between
from sparetrees.errors import NoWidths
from sparetrees.nets import all_sides, every_link, links_into, need_net
from sparetrees.packing import grown_woods, is_tree

MOST_WIDTH = 20
MOST_TIMES = 40


def need_widths(net, thing):
    """Raise NoWidths unless a thing is widths, one for each link."""
    if not isinstance(thing, tuple) or len(thing) != len(net.links):
        raise NoWidths()
    for width in thing:
        if not is_between(width, 0, MOST_WIDTH):
            raise NoWidths()


def rate(net, widths):
    """The least sum of the widths of the links that enter a side."""
    need_net(net)
    need_widths(net, widths)
    lot = every_link(net)
    return min([sum([widths[link] for link in links_into(net, lot, side)]) for side in all_sides(net)])


def loads(net, widths, many):
    """Loads whose times are many together."""
    need_net(net)
    need_widths(net, widths)
    need_between(many, 0, MOST_TIMES)
    times = {}
    for tree in grown_woods(net, widths, [(net.root,)] * many):
        times[tree] = times.get(tree, 0) + 1
    return tuple([(times[tree], tree) for tree in sorted(times)])


def is_load(net, thing):
    """Whether a thing is a pair of times, from 1 on, and a tree."""
    if not isinstance(thing, tuple) or len(thing) != 2:
        return False
    times, tree = thing
    return is_integer(times) and times >= 1 and is_tree(net, tree)


def carried(net, pairs):
    """The list, link by link, of the times of the trees in which it is."""
    sums = [0] * len(net.links)
    for times, tree in pairs:
        for link in tree:
            sums[link] += times
    return sums


def are_loads(net, widths, many, thing):
    """Whether a thing is loads whose times are many together."""
    need_net(net)
    need_widths(net, widths)
    need_between(many, 0, MOST_TIMES)
    if not isinstance(thing, tuple):
        return False
    for pair in thing:
        if not is_load(net, pair):
            return False
    trees = [pair[1] for pair in thing]
    if trees != sorted(set(trees)) or sum([pair[0] for pair in thing]) != many:
        return False
    for width, sums in zip(widths, carried(net, thing)):
        if sums > width:
            return False
    return True
