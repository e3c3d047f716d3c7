"""Plans: packings by whose trees the words of frames go through a net."""

from sparetrees.checks import need_between
from sparetrees.errors import NoPacking, NoPlan
from sparetrees.nets import need_net
from sparetrees.packing import MOST_TREES, is_packing, packing
from sparetrees.trees import tree_way
from sparetrees.words import MOST_SIZE, need_size


class Plan:
    """A packing of a net, and the size of the frames that go by its trees."""

    def __init__(self, net, trees, size):
        need_net(net)
        if not is_packing(net, trees) or len(trees) < 1 or len(trees) > MOST_TREES:
            raise NoPacking()
        need_between(size, 1, min(MOST_SIZE, len(trees)))
        self.of_net = net
        self.by_trees = trees
        self.of_size = size

    def __eq__(self, other):
        return (isinstance(other, Plan) and self.of_net == other.of_net
                and self.by_trees == other.by_trees and self.of_size == other.of_size)


def need_plan(thing):
    """Raise NoPlan unless a thing is a Plan."""
    if not isinstance(thing, Plan):
        raise NoPlan()


def need_spare(size, thing):
    """Raise NoNumber unless a thing is a number of spare trees beside a size."""
    need_between(thing, 0, MOST_TREES - size)


def plan_for(net, size, spare):
    """A Plan of so many trees as the size, and so many more."""
    need_net(net)
    need_size(size)
    need_spare(size, spare)
    return Plan(net, packing(net, size + spare), size)


def spare_of(plan):
    """How many trees a plan has beyond its size."""
    return len(plan.by_trees) - plan.of_size


def hops(plan):
    """The list of (tree, depth, link, from, to), of all links of the trees, of less depth first in each."""
    net = plan.of_net
    found = []
    for number, tree in enumerate(plan.by_trees):
        for link in tree:
            start, end = net.links[link]
            found.append((number, len(tree_way(net, tree, end)), link, start, end))
    return sorted(found)


def deepest(plan):
    """The greatest depth of a place in a tree."""
    need_plan(plan)
    return max([hop[1] for hop in hops(plan)])
