"""Streams of frames that are led through a net by one plan, beat by beat."""

from sparetrees.checks import need_place
from sparetrees.flow import Flow
from sparetrees.nets import need_lot
from sparetrees.plans import need_plan
from sparetrees.words import need_frames, need_prime_of

MOST_FRAMES = 200


class Stream:
    """Frames, each of which leaves in the beat of its number."""

    def __init__(self, plan, prime, frames):
        need_plan(plan)
        need_prime_of(len(plan.by_trees), prime)
        need_frames(prime, plan.of_size, MOST_FRAMES, frames)
        self.of_plan = plan
        self.of_prime = prime
        self.of_frames = frames
        self.flow = Flow(plan, prime)

    def is_next(self):
        """Whether a frame leaves in the next beat."""
        return self.flow.done < len(self.of_frames)

    def beat(self, lost):
        """Do a beat, in which a lot of links is lost; tell what is heard by its end, place by place."""
        need_lot(self.of_plan.of_net, lost)
        frame = self.of_frames[self.flow.done] if self.is_next() else None
        return self.flow.carry(frame, lost)

    def beats(self):
        """How many beats were done."""
        return self.flow.done

    def heard(self, place):
        """The dict from the numbers of frames heard of at a place to the dicts of their words."""
        need_place(self.of_plan.of_net, place)
        return self.flow.heard_at(place)

    def row(self, place):
        """The tuple of the frames, from the first one on, that are told at a place by now."""
        need_place(self.of_plan.of_net, place)
        return self.flow.row_at(place)

    def under_way(self):
        """How many links have a word to carry in the next beat."""
        begun = self.flow.count_begun() if self.is_next() else 0
        return len(self.flow.carried()) + begun

    def room(self, place):
        """Of how many frames words were heard at a place, but fewer than tell them."""
        need_place(self.of_plan.of_net, place)
        return self.flow.untold_at(place)

    def copy(self):
        """A Stream that goes on apart."""
        other = Stream(self.of_plan, self.of_prime, self.of_frames)
        other.flow = self.flow.copied()
        return other
