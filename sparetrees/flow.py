"""Frames on their ways: what all places have heard of them, and what is carried on, beat by beat."""

from sparetrees.plans import hops
from sparetrees.words import word_of


class Flow:
    """Frames that leave, numbered as they do, each by the newest plan then, all plans being like.

    Of each place it knows the dict from numbers of frames to the dicts, from trees to words, of what
    was heard there. Of each frame that may be under way it keeps its number, its beat and its hops.
    """

    def __init__(self, plan, prime):
        self.prime = prime
        self.done = 0
        self.sent = []
        self.under = []
        self.known = [{} for _ in range(plan.of_net.many)]
        self.go_by(plan)

    def go_by(self, plan):
        """Let the frames leave by another plan from now on."""
        self.by_plan = plan
        self.by_hops = hops(plan)

    def hear(self, place, number, tree, word):
        """Keep a word that is heard at a place."""
        if number not in self.known[place]:
            self.known[place][number] = {}
        self.known[place][number][tree] = word

    def word_at(self, place, number, tree):
        """The word of a frame's tree that was heard at a place, None if it was not."""
        return self.known[place].get(number, {}).get(tree)

    def carried(self):
        """The list of (frame, tree, word, link, to) of the words of frames that left that go in the next beat."""
        found = []
        for number, beat, ways in self.under:
            for tree, depth, link, start, end in ways:
                word = self.word_at(start, number, tree)
                if beat + depth - 1 == self.done and word is not None:
                    found.append((number, tree, word, link, end))
        return found

    def count_begun(self):
        """How many links carry a word of a frame in the beat in which it leaves."""
        return len([hop for hop in self.by_hops if hop[1] == 1])

    def leave(self, frame):
        """Let a frame leave in the next beat, and tell the triples (frame, tree, word) of its words."""
        number = len(self.sent)
        root = self.by_plan.of_net.root
        triples = []
        for tree in range(len(self.by_plan.by_trees)):
            word = word_of(self.prime, frame, tree)
            self.hear(root, number, tree, word)
            triples.append((number, tree, word))
        self.sent.append(frame)
        self.under.append((number, self.done, self.by_hops))
        return triples

    def carry(self, frame, lost):
        """Do a beat, in which a frame leaves, or none if it is None, and a lot of links is lost.

        What is told is, place by place, the ascending triples (frame, tree, word) that are heard.
        """
        fresh = [[] for _ in self.known]
        if frame is not None:
            fresh[self.by_plan.of_net.root] = self.leave(frame)
        for number, tree, word, link, end in self.carried():
            if link not in lost:
                self.hear(end, number, tree, word)
                fresh[end].append((number, tree, word))
        self.done += 1
        # A way has fewer links than there are places: so what left long ago has come where it can.
        self.under = [gone for gone in self.under if self.done - gone[1] < len(self.known)]
        return tuple([tuple(sorted(triples)) for triples in fresh])

    def heard_at(self, place):
        """The dict from the numbers of frames heard of at a place to the dicts of their words."""
        known = self.known[place]
        return {number: {tree: known[number][tree] for tree in sorted(known[number])} for number in sorted(known)}

    def is_told(self, place, number):
        """Whether enough words of a frame were heard at a place to tell it."""
        return len(self.known[place].get(number, {})) >= self.by_plan.of_size

    def row_at(self, place):
        """The tuple of the frames, from the first one on, that are told at a place, as far as none lacks."""
        count = 0
        while self.is_told(place, count):
            count += 1
        # Any as many words of a frame as its size tell it and no other one.
        return tuple(self.sent[:count])

    def untold_at(self, place):
        """How many frames were heard of at a place by fewer words than tell them."""
        return len([number for number in self.known[place] if not self.is_told(place, number)])

    def copied(self):
        """A Flow that goes on apart."""
        other = Flow(self.by_plan, self.prime)
        other.done = self.done
        other.sent = list(self.sent)
        other.under = list(self.under)
        other.known = [self.heard_at(place) for place in range(len(self.known))]
        return other
