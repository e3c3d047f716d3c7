"""How deep places are in a tree, the way that leads to them in it, and all trees of a lot of links."""

from sparetrees.checks import need_place
from sparetrees.errors import NoTree, TooMany
from sparetrees.nets import need_lot, need_net
from sparetrees.packing import is_tree

MOST_CHOICES = 20000


def need_tree(net, thing):
    """Raise NoTree unless a thing is a tree."""
    if not is_tree(net, thing):
        raise NoTree()


def links_to(net, lot, place):
    """The list of those of a lot's links that lead to a place."""
    return [link for link in lot if net.links[link][1] == place]


def tree_way(net, tree, place):
    """The tuple of the links of a tree, which is not checked, that lead from the root to a place."""
    way = ()
    here = place
    while here != net.root:
        link = links_to(net, tree, here)[0]
        way = (link,) + way
        here = net.links[link][0]
    return way


def depths(net, tree):
    """The tuple, place by place, of how many links lead to it from the root in a tree."""
    need_net(net)
    need_tree(net, tree)
    return tuple([len(tree_way(net, tree, place)) for place in range(net.many)])


def way_in(net, tree, place):
    """The tuple of the links that lead to a place in a tree, the first one from the root."""
    need_net(net)
    need_tree(net, tree)
    need_place(net, place)
    return tree_way(net, tree, place)


def all_trees(net, lot):
    """The ascending list of all trees within a lot of links."""
    need_net(net)
    need_lot(net, lot)
    rows = [links_to(net, lot, place) for place in range(net.many) if place != net.root]
    count = 1
    for row in rows:
        count = count * len(row)
    if count > MOST_CHOICES:
        raise TooMany(MOST_CHOICES)
    # Where a place has no link no tree is there, however many choices the others have.
    if count == 0:
        return []
    lots = [tuple(sorted(choice)) for choice in all_choices(rows)]
    return sorted([tree for tree in lots if is_tree(net, tree)])


def all_choices(rows):
    """The list of all tuples of one item of each row."""
    choices = [()]
    for row in rows:
        choices = [choice + (item,) for choice in choices for item in row]
    return choices
