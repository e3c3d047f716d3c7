"""What the document promises over the whole program: all is heard in time, whatever is lost within what is spare."""

import itertools
import random
import unittest

from sparetrees.nets import Net
from sparetrees.plans import Plan, plan_for
from sparetrees.stops import greatest_spare
from sparetrees.streams import Stream
from tests.plan_samples import depth_of_links, prime_for, random_frames
from tests.samples import net_of_trees


class Adversary:
    """Loses links, within any so many beats one behind another at most so many unlike ones."""

    def __init__(self, chance, span, most):
        self.chance, self.span, self.most = chance, span, most
        self.rows = []

    def near(self):
        """The links that were lost in the beats that are in one span with the next one."""
        return {link for lot in self.rows[max(0, len(self.rows) - self.span + 1):] for link in lot}

    def lose(self, links):
        """A lot of some of the links, as many as can be more often than not."""
        links = list(links)
        self.chance.shuffle(links)
        lot = set()
        for link in links:
            if len(self.near() | lot | {link}) <= self.most and self.chance.randrange(8) > 0:
                lot.add(link)
        self.rows.append(tuple(sorted(lot)))
        return self.rows[-1]


def nets():
    """Small nets that can spare something, and one that can't."""
    chance = random.Random(80)
    found = [Net(2, 0, ((0, 1),) * 3), Net(3, 0, ((0, 1), (0, 2), (1, 2), (2, 1))), Net(2, 1, ((1, 0),))]
    for _ in range(18):
        found.append(net_of_trees(chance, chance.randrange(2, 7), chance.randrange(1, 6), chance.randrange(4)))
    return found


def sizes_and_spares(net):
    for size in range(1, 9):
        most = greatest_spare(net, size)
        if most is not None:
            for spare in range(min(most, 12 - size) + 1):
                yield size, spare


class StreamsTest(unittest.TestCase):

    def check_told(self, stream, frames, beats, many):
        """Each place has each frame as many beats behind its own as there are places, less 1."""
        for place in range(many):
            due = max(0, beats - (many - 1))
            self.assertEqual(stream.row(place)[:due], frames[:due])

    def test_all_sizes_and_spares(self):
        chance = random.Random(81)
        tried = 0
        for net in nets():
            for size, spare in sizes_and_spares(net):
                plan = plan_for(net, size, spare)
                prime = prime_for(chance, plan)
                frames = random_frames(chance, prime, size, 12)
                stream = Stream(plan, prime, frames)
                adversary = Adversary(chance, net.many - 1, spare)
                used = [link for tree in plan.by_trees for link in tree]
                for beat in range(12 + net.many):
                    stream.beat(adversary.lose(used if chance.randrange(3) else range(len(net.links))))
                    self.check_told(stream, frames, beat + 1, net.many)
                self.assertEqual([stream.row(place) for place in range(net.many)], [frames] * net.many)
                tried += 1
        self.assertGreater(tried, 100)

    def test_all_losses_of_a_small_net(self):
        net = Net(3, 0, ((0, 1), (0, 2), (1, 2), (2, 1), (0, 1)))
        plan = plan_for(net, 1, 1)
        frames = ((3,), (1,))
        lots = [lot for count in (0, 1) for lot in itertools.combinations(range(5), count)]
        for losses in itertools.product(lots, repeat=4):
            if all(len(set(one + other)) <= 1 for one, other in zip(losses, losses[1:])):
                stream = Stream(plan, 5, frames)
                for lost in losses:
                    stream.beat(lost)
                self.assertEqual([stream.row(place) for place in range(3)], [frames] * 3)

    def test_links_that_are_lost_for_ever(self):
        chance = random.Random(82)
        for net in nets():
            for size, spare in sizes_and_spares(net):
                plan = plan_for(net, size, spare)
                prime = prime_for(chance, plan)
                frames = random_frames(chance, prime, size, 3)
                stream = Stream(plan, prime, frames)
                lost = tuple(sorted(chance.sample(range(len(net.links)), spare)))
                for beat in range(3 + net.many):
                    stream.beat(lost)
                    self.check_told(stream, frames, beat + 1, net.many)

    def test_no_tree_is_deeper_than_the_places_let(self):
        for net in nets():
            for size, spare in sizes_and_spares(net):
                plan = plan_for(net, size, spare)
                self.assertIs(plan.__class__, Plan)
                self.assertLess(max(depth_of_links(plan).values()), net.many)


if __name__ == "__main__":
    unittest.main()
