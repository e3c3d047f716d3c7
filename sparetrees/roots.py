"""Woods of several sources, and packings that go on from told parts."""

from sparetrees.checks import is_lot, is_within, share_none
from sparetrees.errors import NoParts, NoRoots
from sparetrees.nets import need_net
from sparetrees.packing import grown_woods, heard_places, is_grown, is_packing, is_wood, once_each

MOST_ROOTS = 12
MOST_PARTS = 12


def is_roots(net, thing):
    """Whether a thing is roots."""
    if not isinstance(thing, tuple) or len(thing) < 1 or len(thing) > MOST_ROOTS:
        return False
    for lot in thing:
        if not is_lot(lot, net.many) or len(lot) == 0:
            return False
    return True


def need_roots(net, thing):
    """Raise NoRoots unless a thing is roots."""
    if not is_roots(net, thing):
        raise NoRoots()


def woods(net, roots):
    """A tuple of woods, one of each of the roots, no two of which have a link in common."""
    need_net(net)
    need_roots(net, roots)
    return grown_woods(net, [1] * len(net.links), roots)


def are_woods(net, roots, thing):
    """Whether a thing is a tuple of woods, one of each of the roots, that share no link."""
    need_net(net)
    need_roots(net, roots)
    if not isinstance(thing, tuple) or len(thing) != len(roots):
        return False
    for begun, wood in zip(roots, thing):
        if not is_wood(net, begun, wood):
            return False
    return share_none(thing)


def is_parts(net, thing):
    """Whether a thing is parts."""
    if not isinstance(thing, tuple) or len(thing) < 1 or len(thing) > MOST_PARTS:
        return False
    for part in thing:
        if not is_grown(net, part):
            return False
    return share_none(thing)


def need_parts(net, thing):
    """Raise NoParts unless a thing is parts."""
    if not is_parts(net, thing):
        raise NoParts()


def continued(net, parts):
    """A packing of as many trees as there are parts, each of which holds the part at its place."""
    need_net(net)
    need_parts(net, parts)
    used = [link for part in parts for link in part]
    rest = [link for link in range(len(net.links)) if link not in used]
    begun = [heard_places(net, part) for part in parts]
    ends = grown_woods(net, once_each(net, rest), begun)
    return tuple([tuple(sorted(part + end)) for part, end in zip(parts, ends)])


def is_continued(net, parts, thing):
    """Whether a thing is a packing each of whose trees holds the part at its place."""
    need_net(net)
    need_parts(net, parts)
    if not is_packing(net, thing) or len(thing) != len(parts):
        return False
    for part, tree in zip(parts, thing):
        if not is_within(part, tree):
            return False
    return True
