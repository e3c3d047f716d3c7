import random
import unittest

from sparetrees.errors import NoFrames, NoLosses, NoLot, NoNet, NoNumber, NoPlan, NoPrime
from sparetrees.losses import told_at
from sparetrees.nets import Net
from sparetrees.plans import deepest
from sparetrees.stops import least_stop
from sparetrees.strangers import led, tree_forwarder, tree_teller
from tests.plan_samples import (
    NO_PRIMES, PRIMES, line_plan, lot_in, no_plans, plans, prime_for, random_frames, random_losses, random_plan,
    star_plan, way_apart, word_apart)
from tests.samples import odd_things, random_net

SMALL = Net(3, 0, ((0, 1), (1, 2), (0, 2), (2, 0), (2, 1)))


def silent(place, beat, heard):
    return {}


def nothing_told(place, heard):
    return ()


class Run:
    """A run of strangers whose words are made of all that was heard; it keeps what was asked."""

    def __init__(self, net, prime, frames, beats, losses):
        self.net, self.prime, self.frames, self.beats, self.losses = net, prime, frames, beats, losses
        self.asked = []

    def mixed(self, place, beat, heard):
        """A dict of words that depend on all that was heard; now and then a link carries nothing."""
        sums = 7 * place + beat
        for when, link, word in heard:
            sums += (when + 1) * (link + 3) * (word if link >= 0 else sum(word) + len(word))
        return {link: (sums + link) % self.prime for link, pair in enumerate(self.net.links)
                if pair[0] == place and (sums + link) % 4 > 0}

    def forwarder(self, place, beat, heard):
        self.asked.append((place, beat, heard))
        return self.mixed(place, beat, heard)

    def teller(self, place, heard):
        self.asked.append((place, heard))
        return self.frames[:len(heard) % (len(self.frames) + 1)]

    def expected(self):
        """All that is asked, one beat behind another, and how many frames each place holds in the end."""
        known = [[] for _ in range(self.net.many)]
        asked, held = [], {}
        for beat in range(self.beats):
            if beat < len(self.frames):
                known[self.net.root].append((beat, -1, self.frames[beat]))
            carried = []
            for place in range(self.net.many):
                asked.append((place, beat, tuple(sorted(known[place], key=lambda triple: triple[:2]))))
                carried += list(self.mixed(*asked[-1]).items())
            for link, word in carried:
                if link not in lot_in(self.losses, beat):
                    known[self.net.links[link][1]].append((beat + 1, link, word))
            for place in range(self.net.many):
                if place != self.net.root:
                    asked.append((place, tuple(sorted(known[place], key=lambda triple: triple[:2]))))
                    held[place] = len(known[place]) % (len(self.frames) + 1)
        return asked, held


class LedTest(unittest.TestCase):

    def test_each_is_asked_with_just_what_its_place_has_heard(self):
        chance = random.Random(100)
        verdicts = []
        for _ in range(80):
            net = random_net(chance, chance.randrange(2, 6), chance.randrange(0, 14))
            prime, size = chance.choice(PRIMES), chance.randrange(1, 9)
            frames = random_frames(chance, prime, size, chance.choice([0, 1, 3, 9]))
            beats = chance.randrange(1, 9)
            run = Run(net, prime, frames, beats, random_losses(chance, net, chance.randrange(6), 20))
            found = led(net, size, prime, frames, beats, run.losses, run.forwarder, run.teller)
            asked, held = run.expected()
            self.assertEqual(run.asked, asked)
            for call in run.asked:
                self.assertIs(call[-1].__class__, tuple)
            lacks = [("lacks", place, held[place]) for place in sorted(held) if held[place] < len(frames)]
            self.assertEqual(found, (lacks + [("heard",)])[0])
            verdicts.append(found[0])
        self.assertGreater(min(verdicts.count("heard"), verdicts.count("lacks")), 8)

    def test_when_words_are_heard(self):
        calls = []

        def forwarder(place, beat, heard):
            calls.append((place, beat, heard))
            return {0: {0: 1}, 1: {1: 2}, 2: {3: 3}}[place]

        frames = ((1,), (4,))
        led(SMALL, 1, 5, frames, 3, ((), (3,), (3,)), forwarder, nothing_told)
        root = ((0, -1, (1,)), (1, -1, (4,)), (1, 3, 3))
        self.assertEqual(calls, [
            (0, 0, root[:1]), (1, 0, ()), (2, 0, ()),
            (0, 1, root), (1, 1, ((1, 0, 1),)), (2, 1, ((1, 1, 2),)),
            (0, 2, root), (1, 2, ((1, 0, 1), (2, 0, 1))), (2, 2, ((1, 1, 2), (2, 1, 2)))])

    def test_tellers_are_asked_behind_each_beat(self):
        calls = []

        def teller(place, heard):
            calls.append((place, heard))
            return ()

        net = Net(3, 1, ((1, 0), (0, 2)))

        def forwarder(place, beat, heard):
            calls.append(place)
            return {1: {0: beat}, 0: {1: 4}, 2: {}}[place]

        self.assertEqual(led(net, 1, 5, (), 2, ((1,), ()), forwarder, teller), ("heard",))
        self.assertEqual(calls, [0, 1, 2, (0, ((1, 0, 0),)), (2, ()),
                                 0, 1, 2, (0, ((1, 0, 0), (2, 0, 1))), (2, ((2, 1, 4),))])

    def test_losses_that_go_on(self):
        heard = []

        def teller(place, words):
            heard.append(words)
            return ()

        def forwarder(place, beat, words):
            return {0: beat} if place == 0 else {}

        net = Net(2, 0, ((0, 1),))
        led(net, 1, 7, (), 5, ((), (), (0,)), forwarder, teller)
        self.assertEqual(heard[-1], ((1, 0, 0), (2, 0, 1)))
        led(net, 1, 7, (), 5, ((0,), ()), forwarder, teller)
        self.assertEqual(heard[-1], ((2, 0, 1), (3, 0, 2), (4, 0, 3), (5, 0, 4)))
        led(net, 1, 7, (), 5, ((0,),), forwarder, teller)
        self.assertEqual(heard[-1], ())
        led(net, 1, 7, (), 5, (), forwarder, teller)
        self.assertEqual(len(heard[-1]), 5)


class VerdictTest(unittest.TestCase):

    frames = ((1, 2), (3, 4), (0, 0))

    def tell(self, teller, beats=4, frames=None):
        return led(SMALL, 2, 5, self.frames if frames is None else frames, beats, (), silent, teller)

    def test_heard(self):
        self.assertEqual(self.tell(lambda place, heard: self.frames), ("heard",))
        self.assertEqual(self.tell(lambda place, heard: self.frames, 1), ("heard",))
        self.assertEqual(self.tell(nothing_told, 4, ()), ("heard",))

    def test_lacks(self):
        self.assertEqual(self.tell(nothing_told), ("lacks", 1, 0))
        for first in range(4):
            for second in range(4):
                def teller(place, heard, first=first, second=second):
                    return self.frames[:first if place == 1 else second]
                expected = ("lacks", 1, first) if first < 3 else ("lacks", 2, second) if second < 3 else ("heard",)
                self.assertEqual(self.tell(teller), expected)

    def test_only_the_last_tuple_counts(self):
        beats = []

        def fewer(place, heard):
            beats.append(place)
            return self.frames if len(beats) <= 6 else self.frames[:2]

        self.assertEqual(self.tell(fewer, 4), ("lacks", 1, 2))
        beats.clear()

        def more(place, heard):
            beats.append(place)
            return () if len(beats) <= 6 else self.frames

        self.assertEqual(self.tell(more, 4), ("heard",))

    def test_wrong(self):
        bent = [
            ((1, 3),), ((3, 4),), ((1, 2), (0, 0)), self.frames + ((0, 0),), self.frames + ((1, 2),), [(1, 2)], [],
            ([1, 2],), ((1,),), ((1, 2, 0),), ((1, 2), (3, 4), (False, 0)), ((True, 2),), ((1, 2), (3, 4), (0, False)),
            (1, 2), None, True, 0, "", {}, {(1, 2): 1}, (None,), ((1, 2), None), ((),), {0: (1, 2)}, SMALL,
        ]
        for thing in bent + [thing for thing in odd_things() if thing != ((1, 2),)]:
            calls = []

            def teller(place, heard, thing=thing, calls=calls):
                calls.append(place)
                return thing if calls == [1, 2, 1, 2] else self.frames[:len(calls) % 3]

            self.assertEqual(self.tell(teller), ("wrong", 1, 2))
            # Nobody is asked behind it.
            self.assertEqual(calls, [1, 2, 1, 2])
            self.assertEqual(self.tell(lambda place, heard, thing=thing: thing), ("wrong", 0, 1))
        self.assertEqual(self.tell(lambda place, heard: ((1, 2),)), ("lacks", 1, 1))

    def test_bad(self):
        bent = [
            {3: 0}, {2: 0}, {0: 0}, {4: 1, 1: 1}, {1: 5}, {1: -1}, {1: True}, {1: False}, {1: None}, {1: "1"}, {1: (1,)},
            {True: 1}, {5: 1}, {-1: 1}, {"1": 1}, {(1,): 1}, {None: 1}, {1: [1]}, {1: 1, "a": 1}, [], (), None, 0, True,
            "", [(1, 1)], ((1, 1),), set(), {1}, SMALL, {1: 1}.items(), silent, {-4: 1}, {10 ** 59: 1}, {1: 10 ** 59},
        ]
        for thing in bent + [thing for thing in odd_things() if thing != {}]:
            asked = []

            def forwarder(place, beat, heard, thing=thing, asked=asked):
                asked.append((beat, place))
                return thing if (beat, place) == (2, 1) else {}

            def teller(place, heard, asked=asked):
                asked.append(place)
                return ()

            self.assertEqual(led(SMALL, 1, 5, ((1,),), 9, (), forwarder, teller), ("bad", 2, 1))
            self.assertEqual(asked, [(0, 0), (0, 1), (0, 2), 1, 2, (1, 0), (1, 1), (1, 2), 1, 2, (2, 0), (2, 1)])

    def test_good_dicts(self):
        for words in ({}, {1: 0}, {1: 4}):
            self.assertEqual(led(SMALL, 1, 5, ((1,),), 3, (), lambda place, beat, heard, words=words:
                                 words if place == 1 else {}, nothing_told), ("lacks", 1, 0))
        for words in ({3: 1, 4: 0}, {4: 4}):
            self.assertEqual(led(SMALL, 1, 5, ((1,),), 3, (), lambda place, beat, heard, words=words:
                                 words if place == 2 else {}, nothing_told), ("lacks", 1, 0))

    def test_whichever_comes_first(self):
        def wrong_from(first):
            asked = []

            def teller(place, heard):
                asked.append(place)
                return None if len(asked) > first else ()
            return teller

        def bad_from(first):
            return lambda place, beat, heard: None if beat >= first else {}

        self.assertEqual(led(SMALL, 1, 5, (), 5, (), bad_from(1), wrong_from(2)), ("bad", 1, 0))
        self.assertEqual(led(SMALL, 1, 5, (), 5, (), bad_from(1), wrong_from(1)), ("wrong", 0, 2))
        self.assertEqual(led(SMALL, 1, 5, (), 5, (), bad_from(5), wrong_from(9)), ("wrong", 4, 2))
        self.assertEqual(led(SMALL, 1, 5, (), 5, (), bad_from(5), wrong_from(10)), ("heard",))

    def test_links_are_not_counted_from_the_end(self):
        # The last link, and the one ahead of it, leave place 2.
        for words in ({-1: 1}, {-2: 1}, {5: 1}, {4: 1, -1: 1}):
            self.assertEqual(led(SMALL, 1, 5, (), 2, (), lambda place, beat, heard, words=words:
                                 words if place == 2 else {}, nothing_told), ("bad", 0, 2))

    def test_a_link_at_the_root_is_no_flag(self):
        # A flag for a link or a value is bad at the root, too.
        for words in ({False: 1}, {0: True}, {True: 1}):
            self.assertEqual(led(SMALL, 1, 5, (), 2, (), lambda place, beat, heard, words=words: words, nothing_told),
                             ("bad", 0, 0))

    def test_what_is_given_is_not_changed(self):
        words = {0: 1, 2: 3}
        told = ((1,),)

        def forwarder(place, beat, heard):
            return words if place == 0 else {}

        led(SMALL, 1, 5, ((1,),), 3, ((0,),), forwarder, lambda place, heard: told)
        self.assertEqual((words, told), ({0: 1, 2: 3}, ((1,),)))

    def test_a_dict_that_is_given_again(self):
        # One dict is given each time, and changed between: what it held when it was given counts.
        words = {}
        heard = {}

        def forwarder(place, beat, known):
            words.clear()
            words.update({0: {0: 1 + beat}, 1: {1: 2 + beat}, 2: {}}[place])
            return words

        def teller(place, known):
            heard[place] = known
            return ()

        led(SMALL, 1, 7, (), 2, (), forwarder, teller)
        self.assertEqual(heard, {1: ((1, 0, 1), (2, 0, 2)), 2: ((1, 1, 2), (2, 1, 3))})

    def test_errors_of_theirs_go_on(self):
        class Own(Exception):
            pass

        def failing(error, at):
            def function(*args):
                if args[:2] == at or at is None:
                    raise error
                return {}
            return function

        for error in (Own(), ValueError("x"), NoLot(), KeyError(1), StopIteration()):
            with self.assertRaises(error.__class__) as caught:
                led(SMALL, 1, 5, (), 4, (), failing(error, (2, 3)), nothing_told)
            self.assertIs(caught.exception, error)
            with self.assertRaises(error.__class__) as caught:
                led(SMALL, 1, 5, (), 4, (), silent, failing(error, None))
            self.assertIs(caught.exception, error)


class WrongArgumentsTest(unittest.TestCase):

    def raises(self, error, *args):
        def never(*args):
            self.fail("a stranger was asked")
        self.assertRaises(error, led, *args, never, never)

    def test_in_their_order(self):
        for thing in odd_things() + [0, (), line_plan(3, 1, 1)]:
            self.raises(NoNet, thing, "no size", "no prime", "no frames", "no beats", "no losses")
        for thing in odd_things() + [0, 9, -1, True, "1", 10 ** 59]:
            self.raises(NoNumber, SMALL, thing, "no prime", "no frames", "no beats", "no losses")
        for thing in odd_things() + NO_PRIMES:
            self.raises(NoPrime, SMALL, 2, thing, "no frames", "no beats", "no losses")
        for thing in odd_things() + [[], ((1,),), ((1, 5),), ((1, 2, 3),), [(1, 2)], ((1, True),), ((1, 2),) * 61]:
            if thing != ((1, 2),):
                self.raises(NoFrames, SMALL, 2, 5, thing, "no beats", "no losses")
        for thing in odd_things() + [0, 101, -1, True, "1", 10 ** 59]:
            self.raises(NoNumber, SMALL, 2, 5, ((1, 2),), thing, "no losses")
        for thing in odd_things() + [((5,),), ((1, 0),), [()], ((True,),), (0,), ((),) * 61]:
            if thing not in (((0,),), ((1, 2),), ((),)):
                self.raises(NoLosses, SMALL, 2, 5, ((1, 2),), 1, thing)

    def test_the_greatest_that_are_let(self):
        beats = []

        def forwarder(place, beat, heard):
            beats.append(beat)
            return {}

        for count in (1, 2, 99, 100):
            beats.clear()
            self.assertEqual(led(SMALL, 1, 5, (), count, (), forwarder, nothing_told), ("heard",))
            self.assertEqual(beats, [beat for beat in range(count) for _ in range(3)])
        frames = ((1,) * 8,) * 60
        self.assertEqual(led(SMALL, 8, 5, frames, 1, ((),) * 60, silent, lambda *args: frames), ("heard",))
        # The trees of a plan play no part: a prime is let for any size.
        self.assertEqual(led(SMALL, 8, 5, frames, 1, (), silent, nothing_told), ("lacks", 1, 0))

    def test_frames_behind_the_last_beat_are_never_at_the_root(self):
        known = []

        def forwarder(place, beat, heard):
            known.append(heard)
            return {}

        led(Net(2, 1, ()), 1, 5, ((1,), (2,), (3,)), 2, (), forwarder, nothing_told)
        self.assertEqual(known, [(), ((0, -1, (1,)),), (), ((0, -1, (1,)), (1, -1, (2,)))])


class TreeStrangersTest(unittest.TestCase):

    def by_trees(self, plan, prime, frames, beats, losses):
        return led(plan.of_net, plan.of_size, prime, frames, beats, losses, tree_forwarder(plan, prime),
                   tree_teller(plan, prime))

    def verdict_apart(self, plan, frames, beats, losses):
        rows = [told_at(plan, losses, number) for number in range(len(frames))]
        for place in range(plan.of_net.many):
            for number, row in enumerate(rows):
                if place != plan.of_net.root and (row[place] is None or row[place] > beats):
                    return ("lacks", place, number)
        return ("heard",)

    def test_as_told_at_tells(self):
        chance = random.Random(101)
        verdicts = []
        for plan in plans(102, 60):
            prime = prime_for(chance, plan)
            frames = random_frames(chance, prime, plan.of_size, chance.randrange(0, 7))
            for percent in (0, 2, 10):
                losses = random_losses(chance, plan.of_net, chance.randrange(8), percent)
                beats = len(frames) + deepest(plan) + chance.choice([-2, -1, 0, 3])
                if beats > 0:
                    found = self.by_trees(plan, prime, frames, beats, losses)
                    self.assertEqual(found, self.verdict_apart(plan, frames, beats, losses))
                    verdicts.append(found[0])
        self.assertGreater(min(verdicts.count("heard"), verdicts.count("lacks")), 30)

    def test_lost_links_of_the_spare_trees(self):
        chance = random.Random(103)
        for plan in plans(104, 40):
            prime = prime_for(chance, plan)
            frames = random_frames(chance, prime, plan.of_size, 4)
            spare = len(plan.by_trees) - plan.of_size
            lost = tuple(sorted(link for tree in chance.sample(plan.by_trees, spare) for link in tree))
            beats = 3 + deepest(plan)
            self.assertEqual(self.by_trees(plan, prime, frames, beats, (lost,)), ("heard",))
            if beats > 1:
                # With a beat less the last frame lacks at the first place that is as deep.
                self.assertEqual(self.by_trees(plan, prime, frames, beats - 1, (lost,)),
                                 self.verdict_apart(plan, frames, beats - 1, (lost,)))
        for plan in plans(105, 25):
            if len(plan.by_trees) <= 4:
                found = self.by_trees(plan, 13, ((1,) * plan.of_size,) * 2, 20, (least_stop(plan),))
                self.assertEqual(found[0], "lacks")
                self.assertEqual(found[2], 0)

    def test_beats_that_are_just_enough(self):
        plan = line_plan(4, 2, 1)
        frames = ((1,), (2,), (3,))
        self.assertEqual([self.by_trees(plan, 5, frames, beats, ()) for beats in range(1, 7)],
                         [("lacks", 1, 1), ("lacks", 1, 2), ("lacks", 2, 2), ("lacks", 3, 2), ("heard",), ("heard",)])

    def test_what_a_forwarder_gives(self):
        # Trees 0 -> 1 -> 2 by links 0 and 1, and 0 -> 2 -> 1 by links 2 and 4; link 3 is in none.
        plan = random_plan(random.Random(3), 3, 1)
        plan = plan.__class__(SMALL, ((0, 1), (2, 4)), 2)
        forward = tree_forwarder(plan, 7)
        frames = ((0, -1, (1, 2)), (1, -1, (3, 4)))
        self.assertEqual(forward(0, 0, frames[:1]), {0: 1, 2: 3})
        self.assertEqual(forward(0, 1, frames), {0: 3, 2: 0})
        self.assertEqual(forward(0, 2, frames), {})
        # At the root words that come in are left aside.
        self.assertEqual(forward(0, 1, ((0, -1, (1, 2)), (1, 3, 6))), {})
        self.assertEqual(forward(1, 3, ((2, 0, 5), (3, 0, 6), (3, 4, 2))), {1: 6})
        self.assertEqual(forward(2, 3, ((3, 1, 5), (3, 2, 6))), {4: 6})
        self.assertEqual(forward(2, 3, ((3, 1, 5),)), {})
        self.assertEqual(forward(1, 3, ()), {})
        self.assertEqual(forward(1, 3, ((3, 0, 0),)), {1: 0})

    def test_what_a_teller_gives(self):
        plan = random_plan(random.Random(3), 3, 1)
        plan = plan.__class__(SMALL, ((0, 1), (2, 4)), 2)
        tell = tree_teller(plan, 7)
        # Words 0 and 1 of (1, 2) are 1 and 3, those of (3, 4) are 3 and 0.
        self.assertEqual(tell(1, ()), ())
        self.assertEqual(tell(1, ((1, 0, 1), (2, 0, 3))), ())
        self.assertEqual(tell(1, ((1, 0, 1), (2, 0, 3), (2, 4, 3))), ((1, 2),))
        self.assertEqual(tell(1, ((1, 0, 1), (2, 0, 3), (2, 4, 3), (3, 4, 0))), ((1, 2), (3, 4)))
        self.assertEqual(tell(1, ((2, 0, 3), (3, 4, 0))), ())
        self.assertEqual(tell(2, ((1, 2, 3), (2, 1, 1), (2, 2, 0), (3, 1, 3))), ((1, 2), (3, 4)))

    def test_words_by_links_of_no_tree_are_left_aside(self):
        plan = line_plan(3, 2, 2, ((0, 1), (0, 2), (2, 1), (1, 0), (2, 0)))
        forward = tree_forwarder(plan, 5)

        def noisy(place, beat, heard):
            words = {link: (beat + link) % 5 for link in range(4, 9) if plan.of_net.links[link][0] == place}
            words.update(forward(place, beat, heard))
            return words

        frames = ((1, 2), (3, 4), (0, 1))
        self.assertEqual(led(plan.of_net, 2, 5, frames, 6, (), noisy, tree_teller(plan, 5)), ("heard",))

    def test_one_forwarder_at_all_places_and_in_two_runs(self):
        plan = star_plan(4, 3, 2)
        forward, tell = tree_forwarder(plan, 5), tree_teller(plan, 5)
        for frames in (((1, 2), (3, 4)), ((4, 4),), ()):
            for _ in range(2):
                self.assertEqual(led(plan.of_net, 2, 5, frames, 4, ((0,),), forward, tell), ("heard",))

    def test_a_wrong_word_is_not_told(self):
        # A stranger at place 1 bends the word that it sends on; place 2 holds no frame of which not all words are.
        plan = line_plan(3, 3, 2)
        forward = tree_forwarder(plan, 5)

        def bending(place, beat, heard):
            return {link: (word + (place == 1 and link == 1)) % 5 for link, word in forward(place, beat, heard).items()}

        self.assertEqual(led(plan.of_net, 2, 5, ((1, 2),), 4, (), bending, tree_teller(plan, 5)), ("lacks", 2, 0))

    def test_words_are_those_of_the_frame(self):
        plan = star_plan(2, 12, 8)
        frame = (3, 1, 4, 1, 5, 9, 2, 6)
        found = tree_forwarder(plan, 13)(0, 4, ((4, -1, frame),))
        self.assertEqual(found, {tree: word_apart(13, frame, tree) for tree in range(12)})
        self.assertEqual(way_apart(plan, 3, 1), [3])

    def test_wrong_arguments(self):
        plan = star_plan(2, 6, 2)
        for function in (tree_forwarder, tree_teller):
            for thing in no_plans():
                self.assertRaises(NoPlan, function, thing, "no prime")
            for thing in NO_PRIMES + odd_things():
                self.assertRaises(NoPrime, function, plan, thing)
            self.assertRaises(NoPrime, function, plan, 5)
            self.assertTrue(callable(function(plan, 7)))
            self.assertTrue(callable(function(star_plan(2, 5, 2), 5)))
            self.assertRaises(NoPrime, function, star_plan(2, 12, 2), 11)


if __name__ == "__main__":
    unittest.main()
