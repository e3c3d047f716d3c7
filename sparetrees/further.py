"""How many further links a net needs, so that each side is entered by as many as are wanted."""

from sparetrees.checks import is_unlike_pair, need_between, share_none
from sparetrees.nets import all_sides, every_link, is_side, links_into, need_net
from sparetrees.packing import mask_of

MOST_WANTED = 20
MOST_PAIRS = 200


def wants(net, many):
    """The list, fewest first, of pairs of a side and many less how many links enter it."""
    lot = every_link(net)
    return [(side, many - len(links_into(net, lot, side))) for side in all_sides(net)]


def heaviest(net, many):
    """A pair of the greatest weight of a lack, and such a lack: a tuple of the masks of its sides."""
    want_of = {mask_of(side): want for side, want in wants(net, many)}
    best = {0: (0, ())}
    for mask in sorted(want_of):
        best[mask] = heaviest_within(mask, want_of, best)
    return best[max(want_of)]


def heaviest_within(mask, want_of, best):
    """What heaviest tells, of the lacks whose sides are within a mask; best tells it of the lesser ones."""
    first = mask & -mask
    # The first place is in none of the sides, or in one; all others of them are within the rest.
    found = best[mask - first]
    side = mask
    while side > 0:
        weight, lack = best[mask - side]
        if side & first > 0 and weight + want_of[side] > found[0]:
            found = (weight + want_of[side], lack + (side,))
        side = (side - 1) & mask
    return found


def lacking(net, many):
    """The fewest links that must be put in so that each side is entered by at least many."""
    need_net(net)
    need_between(many, 0, MOST_WANTED)
    return heaviest(net, many)[0]


def greatest_lack(net, many):
    """A lack whose weight is lacking."""
    need_net(net)
    need_between(many, 0, MOST_WANTED)
    masks = heaviest(net, many)[1]
    return tuple(sorted([side for side in all_sides(net) if mask_of(side) in masks]))


def to_add(net, many):
    """As few pairs as can be with which each side is entered by at least many, all from the root."""
    need_net(net)
    need_between(many, 0, MOST_WANTED)
    sides = wants(net, many)
    put = {place: many for place in range(net.many) if place != net.root}
    # So many are enough for each side; where no place can do with less, they are the fewest of all.
    for place in list(put):
        put[place] = max([0] + [want - put_beside(put, side, place) for side, want in sides if place in side])
    return tuple([(net.root, place) for place in put for _ in range(put[place])])


def put_beside(put, side, place):
    """How many links are put to the places of a side but one."""
    return sum([put[other] for other in side if other != place])


def is_enough(net, many, thing):
    """Whether a thing is a tuple of pairs with which each side is entered by at least many."""
    need_net(net)
    need_between(many, 0, MOST_WANTED)
    if not isinstance(thing, tuple) or len(thing) > MOST_PAIRS:
        return False
    for pair in thing:
        if not is_unlike_pair(pair, net.many):
            return False
    for side, want in wants(net, many):
        if len([end for start, end in thing if end in side and start not in side]) < want:
            return False
    return True


def is_lack(net, thing):
    """Whether a thing is a lack."""
    need_net(net)
    if not isinstance(thing, tuple):
        return False
    for side in thing:
        if not is_side(net, side):
            return False
    return share_none(thing) and sorted(thing) == list(thing)
