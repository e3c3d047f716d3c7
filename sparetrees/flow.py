"""Frames on their ways: what all places have heard of them, and what is carried on, beat by beat."""

from sparetrees.plans import hops
from sparetrees.words import told_row, word_of


class Flow:
    """Frames that leave, numbered as they do, each by the newest plan then, all plans being like.

    Of each place it keeps the dict from numbers of frames to the dicts, from trees to words, of what
    was heard there. Of each frame that may be under way it keeps its number, its beat and its hops.
    """

    def __init__(self, plan, prime):
        self.prime = prime
        self.done = 0
        self.count_sent = 0
        self.under = []
        self.known = [{} for _ in range(plan.of_net.many)]
        self.go_by(plan)

    def go_by(self, plan):
        """Let the frames leave by another plan from now on."""
        self.by_plan = plan
        self.by_hops = hops(plan)

    def hear(self, place, number, tree, word):
        """Keep a word that is heard at a place."""
        if number not in self.known[place]:
            self.known[place][number] = {}
        self.known[place][number][tree] = word

    def word_at(self, place, number, tree):
        """The word of a frame's tree that was heard at a place, None if it was not."""
        return self.known[place].get(number, {}).get(tree)

    def carried(self):
        """The list of (frame, tree, word, link, to) of the words of frames that left that go in the next beat."""
        found = []
        for number, beat, ways in self.under:
            for tree, depth, link, start, end in ways:
                word = self.word_at(start, number, tree)
                if beat + depth - 1 == self.done and word is not None:
                    found.append((number, tree, word, link, end))
        return found

    def count_begun(self):
        """How many links carry a word of a frame in the beat in which it leaves."""
        return len([hop for hop in self.by_hops if hop[1] == 1])

    def leave(self, frame):
        """Let a frame leave in the next beat, and tell the triples (frame, tree, word) of its words."""
        number = self.count_sent
        root = self.by_plan.of_net.root
        triples = []
        for tree in range(len(self.by_plan.by_trees)):
            word = word_of(self.prime, frame, tree)
            self.hear(root, number, tree, word)
            triples.append((number, tree, word))
        self.under.append((number, self.done, self.by_hops))
        self.count_sent += 1
        return triples

    def carry(self, frame, lost):
        """Do a beat, in which a frame leaves, or none if it is None, and a lot of links is lost.

        What is told is, place by place, the ascending triples (frame, tree, word) that are heard.
        """
        fresh = [[] for _ in self.known]
        if frame is not None:
            fresh[self.by_plan.of_net.root] = self.leave(frame)
        for number, tree, word, link, end in self.carried():
            if link not in lost:
                self.hear(end, number, tree, word)
                fresh[end].append((number, tree, word))
        self.done += 1
        # A way has fewer links than there are places: so what left long ago has come where it can.
        self.under = [sent for sent in self.under if self.done - sent[1] < len(self.known)]
        return tuple([tuple(sorted(triples)) for triples in fresh])

    def heard_at(self, place):
        """The dict from the numbers of frames heard of at a place to the dicts of their words."""
        known = self.known[place]
        return {number: {tree: known[number][tree] for tree in sorted(known[number])} for number in sorted(known)}

    def row_at(self, place):
        """The tuple of the frames, from the first one on, that are told at a place, as far as none lacks."""
        return told_row(self.prime, self.by_plan.of_size, self.known[place])

    def untold_at(self, place):
        """How many frames were heard of at a place by fewer words than tell them."""
        known = self.known[place]
        return len([number for number in known if len(known[number]) < self.by_plan.of_size])

    def copied(self):
        """A Flow that goes on apart."""
        other = Flow(self.by_plan, self.prime)
        other.done = self.done
        other.count_sent = self.count_sent
        other.under = list(self.under)
        other.known = [self.heard_at(place) for place in range(len(self.known))]
        return other
