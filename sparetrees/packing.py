"""Trees, parts of them that grow link by link, and packings of trees that share no link.

Below, a lot of places also stands as a mask: a number whose bit p tells whether place p is in it.
"""

from sparetrees.checks import is_lot, is_within, need_between, share_none
from sparetrees.errors import Barred, NoGrown
from sparetrees.nets import every_link, lots_of, need_lot, need_net

MOST_TREES = 12


def heard_from(net, begun, links):
    """The list of the places that are begun, or come to from these by some links."""
    heard = list(begun)
    waiting = list(begun)
    while len(waiting) > 0:
        here = waiting.pop()
        for link in links:
            start, end = net.links[link]
            if start == here and end not in heard:
                heard.append(end)
                waiting.append(end)
    return heard


def grows_from(net, begun, thing):
    """Whether a thing is a lot of links that grows from begun places, leading to no place twice."""
    if not is_lot(thing, len(net.links)):
        return False
    # Only if each link leads to a place of its own, not a begun one, are as many places heard.
    return len(heard_from(net, begun, thing)) == len(begun) + len(thing)


def is_wood(net, begun, thing):
    """Whether a thing is a wood of begun places."""
    return grows_from(net, begun, thing) and len(begun) + len(thing) == net.many


def is_tree(net, thing):
    """Whether a thing is a tree."""
    need_net(net)
    return is_wood(net, (net.root,), thing)


def is_packing(net, thing):
    """Whether a thing is a tuple of trees no two of which have a link in common."""
    need_net(net)
    if not isinstance(thing, tuple):
        return False
    for tree in thing:
        if not is_tree(net, tree):
            return False
    return share_none(thing)


def is_grown(net, thing):
    """Whether a thing is a grown part."""
    need_net(net)
    return grows_from(net, (net.root,), thing)


def heard_places(net, grown):
    """The lot of the places that are heard by a grown part, which is not checked."""
    return tuple(sorted(heard_from(net, (net.root,), grown)))


def heard_by(net, grown):
    """The lot of the places that are heard by a grown part, the root among them."""
    need_net(net)
    if not is_grown(net, grown):
        raise NoGrown()
    return heard_places(net, grown)


def mask_of(places):
    """The mask of a lot of places."""
    return sum([1 << place for place in places])


def entered_masks(net, link):
    """The list of the masks of all lots of places that a link enters."""
    start, end = net.links[link]
    return [mask for mask in range(1 << net.many) if mask >> end & 1 and not mask >> start & 1]


class Growing:
    """Woods that grow link by link, so that what is left of the links lets all those that are to come.

    There are free[k] times more to take link k. By the safe step a wood can go on by any link that
    enters no lot of places into which just as many links are left as woods to come have none of it.
    """

    def __init__(self, net, free, begun):
        self.net = net
        self.free = list(free)
        self.entered = [entered_masks(net, link) for link in range(len(net.links))]
        self.spare = [0] * (1 << net.many)
        for link, masks in enumerate(self.entered):
            for mask in masks:
                self.spare[mask] += self.free[link]
        for places in begun:
            self.reckon(places, -1)

    def reckon(self, begun, step):
        """Add a step to what is spare at each lot of places that a wood of begun ones must enter."""
        held = mask_of(begun)
        for mask in range(1, 1 << self.net.many):
            if mask & held == 0:
                self.spare[mask] += step

    def first_short(self):
        """The first lot of places, fewest first, that is entered by too few links, None if there is none."""
        for places in lots_of(list(range(self.net.many))):
            if self.spare[mask_of(places)] < 0:
                return places
        return None

    def leads_on(self, link, heard):
        """Whether a link is left, and leads from a heard place to one that is not."""
        start, end = self.net.links[link]
        return self.free[link] > 0 and start in heard and end not in heard

    def is_safe(self, link):
        """Whether a link that is left can be spared by the woods to come."""
        for mask in self.entered[link]:
            if self.spare[mask] == 0:
                return False
        return True

    def next_links(self, heard):
        """The list of the links by which a wood that hears some places can go on."""
        fitting = [link for link in range(len(self.free)) if self.leads_on(link, heard)]
        return [link for link in fitting if self.is_safe(link)]

    def take(self, link):
        """Take a link once."""
        self.free[link] -= 1
        for mask in self.entered[link]:
            self.spare[mask] -= 1

    def wood(self, begun):
        """A wood of begun places, which was among those to come."""
        self.reckon(begun, 1)
        heard = list(begun)
        links = []
        while len(heard) < self.net.many:
            link = self.next_links(heard)[0]
            self.take(link)
            links.append(link)
            heard.append(self.net.links[link][1])
        return tuple(sorted(links))


def grown_woods(net, free, begun):
    """A tuple of woods, one of each begun lot of places, link k being in at most free[k] of them.

    Where there are none, Barred tells the first lot of places that is entered by too few links.
    """
    growing = Growing(net, free, begun)
    short = growing.first_short()
    if short is not None:
        raise Barred(short)
    woods = []
    for places in begun:
        woods.append(growing.wood(places))
    return tuple(woods)


def once_each(net, lot):
    """The list, link by link, of 1 for those of a lot and 0 for the others."""
    return [1 if link in lot else 0 for link in range(len(net.links))]


def packing_within(net, lot, many):
    """A packing of so many trees within a lot of links."""
    need_net(net)
    need_lot(net, lot)
    need_between(many, 0, MOST_TREES)
    return grown_woods(net, once_each(net, lot), [(net.root,)] * many)


def packing(net, many):
    """A packing of so many trees."""
    need_net(net)
    return packing_within(net, every_link(net), many)


def safe_links(net, lot, many, grown):
    """The lot of the links by which a grown part can go on, so that the rest still lets one tree less."""
    need_net(net)
    need_lot(net, lot)
    need_between(many, 1, MOST_TREES)
    if not is_grown(net, grown) or not is_within(grown, lot):
        raise NoGrown()
    rest = [link for link in lot if link not in grown]
    growing = Growing(net, once_each(net, rest), [(net.root,)] * (many - 1))
    if growing.first_short() is not None:
        return ()
    return tuple(growing.next_links(heard_places(net, grown)))
