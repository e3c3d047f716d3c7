import random
import unittest

from sparetrees.errors import NoFrames, NoLot, NoPlace, NoPlan, NoPrime
from sparetrees.losses import hears, told_at
from sparetrees.nets import Net
from sparetrees.plans import Plan, deepest
from sparetrees.streams import Stream
from tests.plan_samples import (
    NO_PRIMES, PRIMES, Timetable, line_plan, no_lots, no_places, no_plans, plans, prime_for, random_frames,
    random_losses, random_plan, some_links, star_plan, word_apart)
from tests.samples import odd_things


def small_net():
    return Net(3, 0, ((0, 1), (1, 2), (0, 2), (2, 1)))


def small_plan():
    return Plan(small_net(), ((0, 1), (2, 3)), 1)


class Pair:
    """A Stream, and a timetable that tells what is to come of it."""

    def __init__(self, case, plan, prime, frames):
        self.case, self.plan, self.frames = case, plan, frames
        self.stream = Stream(plan, prime, frames)
        self.timetable = Timetable(plan, prime)

    def beat(self, lost):
        done = len(self.timetable.lost)
        if done < len(self.frames):
            self.timetable.leave(self.plan, self.frames[done])
        self.timetable.lost.append(lost)
        self.case.assertEqual(self.stream.beat(lost), self.timetable.fresh())

    def check(self):
        case, stream, timetable = self.case, self.stream, self.timetable
        done = len(timetable.lost)
        case.assertEqual(stream.beats(), done)
        for place in range(self.plan.of_net.many):
            case.assertEqual(stream.heard(place), timetable.heard(place))
            case.assertEqual(stream.row(place), timetable.row(place))
            case.assertEqual(stream.room(place), timetable.room(place))
        root = self.plan.of_net.root
        begun = [link for tree in self.plan.by_trees for link in tree if self.plan.of_net.links[link][0] == root]
        expected = len(timetable.busy()) + (len(begun) if done < len(self.frames) else 0)
        case.assertEqual(stream.under_way(), expected)


class StreamTest(unittest.TestCase):

    def test_against_a_timetable(self):
        chance = random.Random(40)
        for plan in plans(41, 30):
            prime = prime_for(chance, plan)
            frames = random_frames(chance, prime, plan.of_size, chance.choice([0, 1, 2, 5, 12]))
            for percent in (0, 10, 40):
                pair = Pair(self, plan, prime, frames)
                pair.check()
                for _ in range(len(frames) + chance.randrange(12)):
                    pair.beat(some_links(chance, plan.of_net, percent))
                    pair.check()

    def test_each_beat_of_a_small_one(self):
        # Link 0 and 1 are one tree, 2 and 3 the other one.
        stream = Stream(small_plan(), 7, ((3,), (4,), (6,)))
        self.assertEqual(stream.beats(), 0)
        self.assertEqual(stream.under_way(), 2)
        self.assertEqual(stream.beat(()), (((0, 0, 3), (0, 1, 3)), ((0, 0, 3),), ((0, 1, 3),)))
        self.assertEqual(stream.under_way(), 4)
        self.assertEqual(stream.beat((0, 3)), (((1, 0, 4), (1, 1, 4)), (), ((0, 0, 3), (1, 1, 4))))
        self.assertEqual((stream.row(1), stream.row(2)), (((3,),), ((3,), (4,))))
        self.assertEqual(stream.heard(1), {0: {0: 3}})
        self.assertEqual(stream.heard(2), {0: {0: 3, 1: 3}, 1: {1: 4}})
        self.assertEqual(stream.heard(0), {0: {0: 3, 1: 3}, 1: {0: 4, 1: 4}})
        # Frame 1 is on its way by link 3 alone, frame 2 leaves by links 0 and 2.
        self.assertEqual(stream.under_way(), 3)
        self.assertEqual(stream.beat((2,)), (((2, 0, 6), (2, 1, 6)), ((1, 1, 4), (2, 0, 6)), ()))
        self.assertEqual(stream.under_way(), 1)
        self.assertEqual(stream.beat(()), ((), (), ((2, 0, 6),)))
        self.assertEqual((stream.under_way(), stream.beats()), (0, 4))
        self.assertEqual(stream.beat(()), ((), (), ()))
        self.assertEqual([stream.row(place) for place in range(3)], [((3,), (4,), (6,))] * 3)

    def test_words_of_greater_frames(self):
        plan = star_plan(2, 4, 3)
        stream = Stream(plan, 11, ((1, 2, 3), (10, 10, 10)))
        words = tuple((0, tree, word_apart(11, (1, 2, 3), tree)) for tree in range(4))
        self.assertEqual(words, ((0, 0, 1), (0, 1, 6), (0, 2, 6), (0, 3, 1)))
        self.assertEqual(stream.beat((1,)), (words, (words[0], words[2], words[3])))
        self.assertEqual(stream.row(1), ((1, 2, 3),))
        stream.beat((0, 3))
        self.assertEqual((stream.row(1), stream.room(1)), (((1, 2, 3),), 1))
        self.assertEqual(stream.row(0), ((1, 2, 3), (10, 10, 10)))

    def test_row_ends_where_a_frame_lacks(self):
        plan = star_plan(2, 2, 1)
        stream = Stream(plan, 5, ((1,), (2,), (3,)))
        stream.beat((0,))
        stream.beat((0, 1))
        stream.beat((1,))
        self.assertEqual(stream.row(1), ((1,),))
        self.assertEqual(stream.heard(1), {0: {1: 1}, 2: {0: 3}})
        stream = Stream(plan, 5, ((1,), (2,), (3,)))
        stream.beat((0, 1))
        stream.beat(())
        self.assertEqual((stream.row(1), stream.heard(1)), ((), {1: {0: 2, 1: 2}}))

    def test_room(self):
        plan = star_plan(2, 3, 3)
        stream = Stream(plan, 5, ((1, 1, 1),) * 6)
        counts = []
        for lost in ((0, 1, 2), (0, 1), (0,), (), (1, 2), (2,)):
            stream.beat(lost)
            counts.append((stream.room(1), stream.room(0)))
        self.assertEqual(counts, [(0, 0), (1, 0), (2, 0), (2, 0), (3, 0), (4, 0)])

    def test_links_that_carry_nothing_may_be_lost(self):
        plan = line_plan(3, 1, 1, ((0, 2), (2, 1), (1, 0)))
        stream = Stream(plan, 5, ((2,), (4,)))
        self.assertEqual(stream.beat((1, 2, 3, 4)), (((0, 0, 2),), ((0, 0, 2),), ()))
        self.assertEqual(stream.beat((2, 3, 4)), (((1, 0, 4),), ((1, 0, 4),), ((0, 0, 2),)))

    def test_a_lost_word_is_lost_for_all_behind_it(self):
        plan = line_plan(5, 1, 1)
        for link in range(4):
            stream = Stream(plan, 5, ((2,),))
            for beat in range(6):
                stream.beat((link,) if beat == link else ())
            self.assertEqual([stream.row(place) for place in range(5)],
                             [((2,),) if place <= link else () for place in range(5)])

    def test_many_frames_and_beats(self):
        chance = random.Random(42)
        plan = random_plan(chance, 6, 4, 3, 2)
        frames = random_frames(chance, 251, 2, 200)
        pair = Pair(self, plan, 251, frames)
        for beat in range(210):
            pair.beat(some_links(chance, plan.of_net, 3))
            if beat % 40 == 0:
                pair.check()
        pair.check()
        stream = Stream(plan, 251, frames)
        for _ in range(200 + deepest(plan)):
            stream.beat(())
        self.assertEqual([stream.row(place) for place in range(6)], [frames] * 6)
        self.assertEqual(stream.under_way(), 0)

    def test_no_frames_at_all(self):
        stream = Stream(small_plan(), 5, ())
        self.assertEqual(stream.under_way(), 0)
        self.assertEqual(stream.beat(()), ((), (), ()))
        self.assertEqual((stream.row(0), stream.heard(0), stream.room(0), stream.beats()), ((), {}, 0, 1))

    def test_nothing_is_heard_ahead_of_the_first_beat(self):
        stream = Stream(small_plan(), 5, ((1,),))
        for place in range(3):
            self.assertEqual((stream.heard(place), stream.row(place), stream.room(place)), ({}, (), 0))


class StepOfStreamsTest(unittest.TestCase):

    def test_it_is_as_hears_tells(self):
        chance = random.Random(43)
        for plan in plans(44, 25):
            prime = prime_for(chance, plan)
            frames = random_frames(chance, prime, plan.of_size, 7)
            losses = random_losses(chance, plan.of_net, 12, 12)
            stream = Stream(plan, prime, frames)
            rows = [hears(plan, losses, number) for number in range(7)]
            for beat in range(20):
                stream.beat(losses[min(beat, 11)])
                for place in range(plan.of_net.many):
                    now = beat + (place != plan.of_net.root)
                    expected = {number: {tree: word_apart(prime, frames[number], tree)
                                         for at, tree in rows[number][place] if at <= now} for number in range(7)}
                    self.assertEqual(stream.heard(place), {number: words for number, words in expected.items() if words})
                    self.assertEqual(frames[:len(stream.row(place))], stream.row(place))
            for number in range(7):
                for place, at in enumerate(told_at(plan, losses, number)):
                    words = stream.heard(place).get(number, {})
                    self.assertEqual(at is not None, len(words) >= plan.of_size)


class LiveTest(unittest.TestCase):

    def test_what_is_returned_is_new(self):
        stream = Stream(small_plan(), 5, ((1,), (2,)))
        stream.beat(())
        for place in range(3):
            right = stream.heard(place)
            found = stream.heard(place)
            found[0][0] = 4
            found[0][7] = 4
            found[9] = {}
            self.assertEqual(stream.heard(place), right)
            found.clear()
            self.assertEqual(stream.heard(place), right)
        stream.heard(1)[0].clear()
        self.assertEqual(stream.beat(()), (((1, 0, 2), (1, 1, 2)), ((0, 1, 1), (1, 0, 2)), ((0, 0, 1), (1, 1, 2))))

    def test_what_it_tells_it_tells_again(self):
        stream = Stream(small_plan(), 5, ((1,), (2,)))
        stream.beat((0,))
        for _ in range(2):
            self.assertEqual((stream.under_way(), stream.beats(), stream.row(2), stream.heard(2), stream.room(2)),
                             (3, 1, ((1,),), {0: {1: 1}}, 0))

    def test_a_copy_goes_on_apart(self):
        chance = random.Random(45)
        for plan in plans(46, 15):
            prime = prime_for(chance, plan)
            frames = random_frames(chance, prime, plan.of_size, 8)
            pair = Pair(self, plan, prime, frames)
            for _ in range(chance.randrange(7)):
                pair.beat(some_links(chance, plan.of_net, 10))
            other = Pair(self, plan, prime, frames)
            other.stream = pair.stream.copy()
            self.assertIs(other.stream.__class__, Stream)
            other.timetable.left = list(pair.timetable.left)
            other.timetable.lost = list(pair.timetable.lost)
            other.check()
            for _ in range(6):
                chance.choice([pair, other]).beat(some_links(chance, plan.of_net, 30))
                pair.check()
                other.check()

    def test_it_is_equal_to_itself_alone(self):
        stream = Stream(small_plan(), 5, ((1,),))
        self.assertTrue(stream == stream)
        for other in [stream.copy(), Stream(small_plan(), 5, ((1,),)), small_plan(), None, 0] + odd_things():
            self.assertFalse(stream == other)
            self.assertTrue(stream != other)


class WrongArgumentsTest(unittest.TestCase):

    def test_no_plan(self):
        for thing in no_plans() + [Stream(small_plan(), 5, ())]:
            self.assertRaises(NoPlan, Stream, thing, "no prime", "no frames")

    def test_no_prime(self):
        for thing in NO_PRIMES + odd_things():
            self.assertRaises(NoPrime, Stream, small_plan(), thing, "no frames")
            self.assertRaises(NoPrime, Stream, small_plan(), thing, ())

    def test_primes_of_too_few_words(self):
        for trees in range(1, 13):
            plan = star_plan(2, trees, 1)
            for prime in PRIMES:
                if prime < trees:
                    self.assertRaises(NoPrime, Stream, plan, prime, "no frames")
                else:
                    self.assertEqual(len(Stream(plan, prime, ((3,),)).beat(())[1]), trees)

    def test_no_frames(self):
        plan = star_plan(2, 3, 2)
        bent = [
            [], [(1, 2)], (1, 2), ((1,),), ((1, 2, 3),), ((),), ((1, 5),), ((-1, 1),), ((1, True),), ((False, 1),),
            ([1, 2],), ((1, 2), None), ((1, 2), (3,)), ((1, 2), (3, 4), (3, 4, 0)), (((1, 2),),), ((1, "2"),), None, 0,
            "12", {(1, 2): 1}, ((1, 2),) * 201, ((1, None),), ((1, (2,)),), plan, range(0), b"",
        ]
        for thing in bent + odd_things():
            if thing != ((1, 2),):
                self.assertRaises(NoFrames, Stream, plan, 5, thing)
        self.assertEqual(Stream(plan, 5, ((1, 2),) * 200).beats(), 0)
        self.assertRaises(NoFrames, Stream, plan, 251, ((1, 251),))
        self.assertEqual(Stream(plan, 251, ((1, 250),)).beats(), 0)

    def test_no_lot_changes_nothing(self):
        stream = Stream(small_plan(), 5, ((1,), (2,), (3,)))
        stream.beat(())
        twin = stream.copy()
        for thing in no_lots(small_net()):
            self.assertRaises(NoLot, stream.beat, thing)
        self.assertEqual(stream.beats(), 1)
        for lost in ((0,), (3,), ()):
            self.assertEqual(stream.beat(lost), twin.beat(lost))
        for place in range(3):
            self.assertEqual(stream.heard(place), twin.heard(place))

    def test_no_place(self):
        stream = Stream(small_plan(), 5, ((1,), (2,)))
        stream.beat(())
        for thing in no_places(small_net()):
            for method in (stream.heard, stream.row, stream.room):
                self.assertRaises(NoPlace, method, thing)
        # The root is let here, too.
        self.assertEqual((stream.heard(0), stream.row(0), stream.room(0)), ({0: {0: 1, 1: 1}}, ((1,),), 0))


if __name__ == "__main__":
    unittest.main()
