"""Links that are lost beat by beat, and what is heard of a frame all the same."""

from sparetrees.checks import is_lot, need_between
from sparetrees.errors import NoLosses
from sparetrees.nets import need_net
from sparetrees.plans import hops, need_plan

MOST_LOTS = 60
MOST_SPAN = 60
MOST_NUMBER = 1000000


def is_losses(net, thing):
    """Whether a thing is losses."""
    need_net(net)
    if not isinstance(thing, tuple) or len(thing) > MOST_LOTS:
        return False
    for lot in thing:
        if not is_lot(lot, len(net.links)):
            return False
    return True


def need_losses(net, thing):
    """Raise NoLosses unless a thing is losses."""
    if not is_losses(net, thing):
        raise NoLosses()


def lost_in(losses, beat):
    """The lot of the links that are lost in a beat."""
    if len(losses) == 0:
        return ()
    return losses[min(beat, len(losses) - 1)]


def spent(net, losses, span):
    """The greatest number of unlike links that are lost within any so many beats one behind another."""
    need_net(net)
    need_losses(net, losses)
    need_between(span, 1, MOST_SPAN)
    counts = [0]
    # Behind the last lot nothing else is lost: so no later beat need begin a span.
    for first in range(len(losses)):
        links = [link for beat in range(first, first + span) for link in lost_in(losses, beat)]
        counts.append(len(set(links)))
    return max(counts)


def hears(plan, losses, number):
    """The tuple, place by place, of the ascending pairs (beat, tree) of a frame's words that are heard there."""
    need_plan(plan)
    net = plan.of_net
    need_losses(net, losses)
    need_between(number, 0, MOST_NUMBER)
    pairs = [[] for _ in range(net.many)]
    pairs[net.root] = [(number, tree) for tree in range(len(plan.by_trees))]
    for tree, depth, link, start, end in hops(plan):
        beat = number + depth - 1
        if (beat, tree) in pairs[start] and link not in lost_in(losses, beat):
            pairs[end].append((beat + 1, tree))
    return tuple([tuple(sorted(row)) for row in pairs])


def told_at(plan, losses, number):
    """The tuple, place by place, of the beat at which a frame is told there, None where it is not."""
    rows = hears(plan, losses, number)
    size = plan.of_size
    return tuple([row[size - 1][0] if len(row) >= size else None for row in rows])
