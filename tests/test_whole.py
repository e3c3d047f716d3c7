"""What the document promises over the whole program: all is heard in time, whatever is lost within what is spare."""

import itertools
import random
import unittest

from sparetrees.errors import Barred
from sparetrees.nets import Net
from sparetrees.plans import Plan, deepest, plan_for
from sparetrees.runs import Runs
from sparetrees.stops import greatest_spare
from sparetrees.streams import Stream
from sparetrees.strangers import led, tree_forwarder, tree_teller
from sparetrees.turning import Turned
from tests.plan_samples import depth_of_links, prime_for, random_frame, random_frames, random_packing
from tests.samples import net_of_trees


class Adversary:
    """Loses links, within any so many beats one behind another at most so many unlike ones."""

    def __init__(self, chance, span, most):
        self.chance, self.span, self.most = chance, span, most
        self.rows = []
        self.dropped = set()

    def near(self):
        """The links that were lost in the beats that are in one span with the next one."""
        return self.dropped | {link for lot in self.rows[max(0, len(self.rows) - self.span + 1):] for link in lot}

    def lose(self, links):
        """A lot of some of the links, as many as can be more often than not."""
        links = list(links)
        self.chance.shuffle(links)
        lot = set()
        for link in links:
            if len(self.near() | lot | {link}) <= self.most and self.chance.randrange(8) > 0:
                lot.add(link)
        self.rows.append(tuple(sorted(lot | self.dropped)))
        self.dropped = set()
        return tuple(sorted(lot))

    def may_drop(self, link):
        """Whether a link may be dropped, which counts as one that is lost in the next beat."""
        if len(self.near() | {link}) > self.most:
            return False
        self.dropped.add(link)
        return True


def nets():
    """Small nets that can spare something, and one that can't."""
    chance = random.Random(80)
    found = [Net(2, 0, ((0, 1),) * 3), Net(3, 0, ((0, 1), (0, 2), (1, 2), (2, 1))), Net(2, 1, ((1, 0),))]
    for _ in range(18):
        found.append(net_of_trees(chance, chance.randrange(2, 7), chance.randrange(1, 6), chance.randrange(4)))
    return found


def sizes_and_spares(net):
    for size in range(1, 9):
        most = greatest_spare(net, size)
        if most is not None:
            for spare in range(min(most, 12 - size) + 1):
                yield size, spare


class StreamsTest(unittest.TestCase):

    def check_told(self, stream, frames, beats, many):
        """Each place has each frame as many beats behind its own as there are places, less 1."""
        for place in range(many):
            due = max(0, beats - (many - 1))
            self.assertEqual(stream.row(place)[:due], frames[:due])

    def test_all_sizes_and_spares(self):
        chance = random.Random(81)
        tried = 0
        for net in nets():
            for size, spare in sizes_and_spares(net):
                plan = plan_for(net, size, spare)
                prime = prime_for(chance, plan)
                frames = random_frames(chance, prime, size, 12)
                stream = Stream(plan, prime, frames)
                adversary = Adversary(chance, net.many - 1, spare)
                used = [link for tree in plan.by_trees for link in tree]
                for beat in range(12 + net.many):
                    stream.beat(adversary.lose(used if chance.randrange(3) else range(len(net.links))))
                    self.check_told(stream, frames, beat + 1, net.many)
                self.assertEqual([stream.row(place) for place in range(net.many)], [frames] * net.many)
                tried += 1
        self.assertGreater(tried, 100)

    def test_all_losses_of_a_small_net(self):
        net = Net(3, 0, ((0, 1), (0, 2), (1, 2), (2, 1), (0, 1)))
        plan = plan_for(net, 1, 1)
        frames = ((3,), (1,))
        lots = [lot for count in (0, 1) for lot in itertools.combinations(range(5), count)]
        for losses in itertools.product(lots, repeat=4):
            if all(len(set(one + other)) <= 1 for one, other in zip(losses, losses[1:])):
                stream = Stream(plan, 5, frames)
                for lost in losses:
                    stream.beat(lost)
                self.assertEqual([stream.row(place) for place in range(3)], [frames] * 3)

    def test_led_by_strangers_of_the_package(self):
        chance = random.Random(83)
        for net in nets():
            for size, spare in sizes_and_spares(net):
                plan = plan_for(net, size, spare)
                prime = prime_for(chance, plan)
                frames = random_frames(chance, prime, size, 5)
                adversary = Adversary(chance, net.many - 1, spare)
                losses = tuple(adversary.lose(range(len(net.links))) for _ in range(4 + net.many))
                self.assertEqual(led(net, size, prime, frames, 4 + net.many, losses, tree_forwarder(plan, prime),
                                     tree_teller(plan, prime)), ("heard",))

    def test_links_that_are_lost_for_ever(self):
        chance = random.Random(82)
        for net in nets():
            for size, spare in sizes_and_spares(net):
                plan = plan_for(net, size, spare)
                prime = prime_for(chance, plan)
                frames = random_frames(chance, prime, size, 3)
                stream = Stream(plan, prime, frames)
                lost = tuple(sorted(chance.sample(range(len(net.links)), spare)))
                for beat in range(3 + net.many):
                    stream.beat(lost)
                    self.check_told(stream, frames, beat + 1, net.many)

    def test_no_tree_is_deeper_than_the_places_let(self):
        for net in nets():
            for size, spare in sizes_and_spares(net):
                plan = plan_for(net, size, spare)
                self.assertIs(plan.__class__, Plan)
                self.assertLess(max(depth_of_links(plan).values()), net.many)


class Led:
    """Frames that left, and when each of them is due at all places."""

    def __init__(self, case, many):
        self.case, self.many, self.frames, self.due = case, many, [], []

    def leave(self, frame, beat):
        self.frames.append(frame)
        self.due.append(beat)

    def check(self, stream):
        number = len([beat for beat in self.due if beat <= stream.beats()])
        for place in range(self.many):
            row = stream.row(place)
            self.case.assertGreaterEqual(len(row), number)
            self.case.assertEqual(row, tuple(self.frames[:len(row)]))


class TurnedTest(unittest.TestCase):

    def other_plans(self, chance, net, size, spare):
        """A few plans of as many trees of one net."""
        found = [plan_for(net, size, spare)]
        for _ in range(12):
            trees = random_packing(chance, net, range(len(net.links)), size + spare)
            if trees is not None:
                found.append(Plan(net, trees, size))
        return found

    def test_all_is_told_whatever_is_turned(self):
        chance = random.Random(84)
        turns = 0
        for net in nets():
            for size, spare in sizes_and_spares(net):
                plans = self.other_plans(chance, net, size, spare)
                prime = prime_for(chance, plans[0])
                stream, frames = Turned(plans[0], prime), Led(self, net.many)
                adversary = Adversary(chance, max(deepest(plan) for plan in plans), spare)
                for _ in range(25):
                    if chance.randrange(4) == 0:
                        stream.turn(chance.choice(plans))
                        turns += 1
                    frame = None
                    if stream.rests() == 0 and chance.randrange(8) > 0:
                        frame = random_frame(chance, prime, size)
                        # As many beats behind as the plan of the frame is deep.
                        frames.leave(frame, stream.beats() + deepest(stream.plan()))
                    used = [link for tree in stream.plan().by_trees for link in tree]
                    stream.beat(frame, adversary.lose(used if chance.randrange(2) else range(len(net.links))))
                    # A frame that is told late by a deep plan lets later ones wait.
                    frames.due = [max(frames.due[:at + 1]) for at in range(len(frames.due))]
                    frames.check(stream)
        self.assertGreater(turns, 300)


class RunsTest(unittest.TestCase):

    def step(self, chance, runs, adversary, net, pairs):
        """Now and then drop a link that is there, put one in, or renew."""
        choice = chance.randrange(6)
        if choice == 0:
            link = chance.choice(runs.there())
            if len(adversary.near() | {link}) <= adversary.most:
                try:
                    runs.drop(link)
                except Barred:
                    return 0
                self.assertTrue(adversary.may_drop(link))
                return 1
        elif choice == 1 and len(pairs) < 60:
            pair = tuple(chance.sample(range(net.many), 2))
            if chance.randrange(2):
                pair = chance.choice(pairs)
            runs.add(pair)
            pairs.append(pair)
        elif choice == 2:
            runs.renew()
        return 0

    def test_all_is_told_whatever_is_dropped(self):
        chance = random.Random(85)
        drops = 0
        for net in nets():
            for size, spare in sizes_and_spares(net):
                prime = prime_for(chance, plan_for(net, size, spare))
                runs, frames, pairs = Runs(net, size, spare, prime), Led(self, net.many), list(net.links)
                adversary = Adversary(chance, net.many - 1, spare)
                for _ in range(25):
                    drops += self.step(chance, runs, adversary, net, pairs)
                    frame = None
                    if runs.rests() == 0:
                        frame = random_frame(chance, prime, size)
                        frames.leave(frame, runs.beats() + net.many - 1)
                    runs.beat(frame, adversary.lose(range(len(pairs))))
                    frames.check(runs)
        self.assertGreater(drops, 100)


if __name__ == "__main__":
    unittest.main()
