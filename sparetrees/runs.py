"""Runs of a stream through a net whose links come and go, with a book of what was done."""

from sparetrees.checks import is_integer, is_unlike_pair
from sparetrees.errors import NoLink, NoPair, TooMany
from sparetrees.nets import MOST_LINKS, Net, every_link, need_lot
from sparetrees.packing import packing_within
from sparetrees.plans import Plan, plan_for
from sparetrees.turning import Turned


def with_pair(net, thing):
    """The Net with one link more; NoPair and TooMany where there is none."""
    if not is_unlike_pair(thing, net.many):
        raise NoPair()
    if len(net.links) == MOST_LINKS:
        raise TooMany(MOST_LINKS)
    return Net(net.many, net.root, net.links + (thing,))


class Runs:
    """A Turned stream by plans with so many spare trees, of the links that are there."""

    def __init__(self, net, size, spare, prime):
        self.stream = Turned(plan_for(net, size, spare), prime)
        # The net of all links that ever were, so that their numbers stay what they are.
        self.of_net = net
        self.of_size = size
        self.of_spare = spare
        self.of_prime = prime
        self.dropped = []
        self.notes = []

    def note(self, word, ahead, passed):
        """Put into the book what was done, and how many beats ahead of it."""
        self.notes.append((word, ahead, passed, self.rests()))

    def beat(self, frame, lost):
        """Do a beat, in which a frame may leave and links are lost; tell what is heard, place by place."""
        self.stream.need_free(frame)
        need_lot(self.of_net, lost)
        # What was put in behind the newest plan is in no plan's net yet, so that it carries nothing.
        known = every_link(self.plan().of_net)
        ahead = self.beats()
        found = self.stream.beat(frame, tuple([link for link in known if link in lost or link in self.dropped]))
        self.note("beat", ahead, frame)
        return found

    def plan_within(self, lot):
        """The Plan of as many trees as ever within a lot of links."""
        return Plan(self.of_net, packing_within(self.of_net, lot, self.of_size + self.of_spare), self.of_size)

    def drop(self, link):
        """Let a link be no more; if it is in the newest plan, turn to one of what is left."""
        lot = self.there()
        if not is_integer(link) or link not in lot:
            raise NoLink()
        newer = self.plan_within(tuple([other for other in lot if other != link]))
        if link in [used for tree in self.plan().by_trees for used in tree]:
            self.stream.turn(newer)
        self.dropped.append(link)
        self.note("drop", self.beats(), link)

    def add(self, pair):
        """Put in a further link, and tell its number."""
        number = len(self.of_net.links)
        self.of_net = with_pair(self.of_net, pair)
        self.note("add", self.beats(), pair)
        return number

    def renew(self):
        """Turn to a plan of the links that are there."""
        self.stream.turn(self.plan_within(self.there()))
        self.note("renew", self.beats(), None)

    def there(self):
        """The lot of the links that are there."""
        return tuple([link for link in every_link(self.of_net) if link not in self.dropped])

    def plan(self):
        """The newest plan."""
        return self.stream.plan()

    def row(self, place):
        """The tuple of the frames, from the first one on, that are told at a place by now."""
        return self.stream.row(place)

    def rests(self):
        """How many beats the source rests still."""
        return self.stream.rests()

    def beats(self):
        """How many beats were done."""
        return self.stream.beats()

    def book(self):
        """The list of (word, beats that were done ahead of it, what was passed, rests behind it)."""
        return list(self.notes)

    def copy(self):
        """A Runs that goes on apart."""
        other = Runs(self.of_net, self.of_size, self.of_spare, self.of_prime)
        other.dropped = list(self.dropped)
        other.notes = list(self.notes)
        other.stream = self.stream.copy()
        return other
