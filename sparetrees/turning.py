"""Plans turned one into another amid a stream, so that no link has two words to carry in one beat."""

from sparetrees.checks import need_between, need_place
from sparetrees.errors import NoFrame, Resting, Unlike
from sparetrees.flow import Flow
from sparetrees.nets import need_lot
from sparetrees.plans import hops, need_plan
from sparetrees.words import is_frame_of, need_prime_of

MOST_REST = 100


def is_beginning(some, links):
    """Whether some links are a beginning of others."""
    return some == links[:len(some)]


def need_like(elder, newer):
    """Raise Unlike unless two plans are like."""
    one, other = elder.of_net, newer.of_net
    if one.many != other.many or one.root != other.root or elder.of_size != newer.of_size:
        raise Unlike()
    if not is_beginning(one.links, other.links) and not is_beginning(other.links, one.links):
        raise Unlike()


def depths_in_both(elder, newer):
    """The ascending list of (link, its depth in the elder plan, its depth in the newer one)."""
    shallow = {link: depth for tree, depth, link, start, end in hops(newer)}
    found = [(hop[2], hop[1]) for hop in hops(elder) if hop[2] in shallow]
    return [(link, depth, shallow[link]) for link, depth in sorted(found)]


def rest_between(elder, newer):
    """The least rest with which a plan, and a like one behind it, go together."""
    return max([0] + [old - new for link, old, new in depths_in_both(elder, newer)])


def least_rest(elder, newer):
    """The least rest with which a plan that is turned into a newer one goes together with it."""
    need_plan(elder)
    need_plan(newer)
    need_like(elder, newer)
    return rest_between(elder, newer)


def clash(elder, newer, rest):
    """None if two plans go together with a rest, else the least (link, elder depth, newer depth) that bars it."""
    need_plan(elder)
    need_plan(newer)
    need_like(elder, newer)
    need_between(rest, 0, MOST_REST)
    for link, old, new in depths_in_both(elder, newer):
        if old - new > rest:
            return (link, old, new)
    return None


class Turned:
    """A stream without end, which can be turned from plan to plan."""

    def __init__(self, plan, prime):
        need_plan(plan)
        need_prime_of(len(plan.by_trees), prime)
        self.of_prime = prime
        self.flow = Flow(plan, prime)
        self.free_at = 0
        # Pairs of a plan by which some frame went, and the beat in which its last one left.
        self.gone_by = []

    def need_free(self, frame):
        """Raise an error unless a frame can leave now, or none is to."""
        if frame is None:
            return
        if not is_frame_of(self.of_prime, self.plan().of_size, frame):
            raise NoFrame()
        if self.rests() > 0:
            raise Resting(self.rests())

    def beat(self, frame, lost):
        """Do a beat, in which a frame may leave and links are lost; tell what is heard, place by place."""
        self.need_free(frame)
        need_lot(self.plan().of_net, lost)
        if frame is not None:
            others = [pair for pair in self.gone_by if pair[0] != self.plan()]
            self.gone_by = others + [(self.plan(), self.flow.done)]
        return self.flow.carry(frame, lost)

    def turn(self, newer):
        """Let the frames go by another plan from the next one on."""
        need_plan(newer)
        for plan in [self.plan()] + [pair[0] for pair in self.gone_by]:
            need_like(plan, newer)
        need_prime_of(len(newer.by_trees), self.of_prime)
        self.free_at = max([0] + [last + 1 + rest_between(plan, newer) for plan, last in self.gone_by])
        self.flow.go_by(newer)

    def rests(self):
        """How many beats the source rests still."""
        return max(0, self.free_at - self.flow.done)

    def beats(self):
        """How many beats were done."""
        return self.flow.done

    def heard(self, place):
        """The dict from the numbers of frames heard of at a place to the dicts of their words."""
        need_place(self.plan().of_net, place)
        return self.flow.heard_at(place)

    def row(self, place):
        """The tuple of the frames, from the first one on, that are told at a place by now."""
        need_place(self.plan().of_net, place)
        return self.flow.row_at(place)

    def under_way(self):
        """How many links have a word, of frames that left, to carry in the next beat."""
        return len(self.flow.carried())

    def plan(self):
        """The newest plan."""
        return self.flow.by_plan

    def copy(self):
        """A Turned that goes on apart."""
        other = Turned(self.plan(), self.of_prime)
        other.flow = self.flow.copied()
        other.free_at = self.free_at
        other.gone_by = list(self.gone_by)
        return other
