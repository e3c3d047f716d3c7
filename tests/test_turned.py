import random
import unittest

from sparetrees.errors import NoFrame, NoLot, NoPlace, NoPlan, NoPrime, Resting, Unlike
from sparetrees.nets import Net
from sparetrees.plans import Plan
from sparetrees.turning import Turned, least_rest
from tests.plan_samples import (
    NO_PRIMES, PRIMES, Timetable, depth_of_links, like_plans, line_plan, no_lots, no_places, no_plans, random_frame,
    rest_apart, sized_plan, some_links, star_plan)
from tests.samples import odd_things

LINE = ((0, 1), (1, 2), (2, 3), (0, 2), (0, 3), (3, 1), (0, 1))


def deep_plan(links=6):
    """Depths 1, 2 and 3 of links 0, 1 and 2."""
    return Plan(Net(4, 0, LINE[:links]), ((0, 1, 2),), 1)


def flat_plan(links=6):
    """Depths 1, 2 and 3 of links 3, 2 and 5."""
    return Plan(Net(4, 0, LINE[:links]), ((2, 3, 5),), 1)


def last_plan(links=6):
    """Depth 1 of links 0, 3 and 4."""
    return Plan(Net(4, 0, LINE[:links]), ((0, 3, 4),), 1)


class Model:
    """A Turned, and what is to come of it by a timetable."""

    def __init__(self, case, plan, prime):
        self.case, self.newest, self.prime = case, plan, prime
        self.turned = Turned(plan, prime)
        self.timetable = Timetable(plan, prime)
        self.gone = []
        self.known_rests = {}

    def copied(self):
        other = Model(self.case, self.newest, self.prime)
        other.turned = self.turned.copy()
        other.gone = list(self.gone)
        other.timetable.left = list(self.timetable.left)
        other.timetable.lost = list(self.timetable.lost)
        return other

    def rest_of(self, plan):
        key = (id(plan), id(self.newest))
        if key not in self.known_rests:
            self.known_rests[key] = (rest_apart(plan, self.newest), plan, self.newest)
        return self.known_rests[key][0]

    def rests(self):
        free = [beat + 1 + self.rest_of(plan) for plan, beat in self.gone]
        return max([0] + [beat - len(self.timetable.lost) for beat in free])

    def turn(self, newer):
        self.case.assertIsNone(self.turned.turn(newer))
        self.newest = newer

    def beat(self, frame, lost):
        """A beat; where the source rests still a frame is refused, and nothing is changed."""
        if frame is not None and self.rests() > 0:
            with self.case.assertRaises(Resting) as caught:
                self.turned.beat(frame, lost)
            self.case.assertEqual(caught.exception.left, self.rests())
            return
        if frame is not None:
            self.gone.append((self.newest, len(self.timetable.lost)))
            self.timetable.leave(self.newest, frame)
        # No link has two words to carry, those of the frame that leaves in this beat among them.
        carrying = self.timetable.busy()
        self.case.assertEqual(len(set(carrying)), len(carrying))
        self.timetable.lost.append(lost)
        self.case.assertEqual(self.turned.beat(frame, lost), self.timetable.fresh())

    def check(self):
        case, turned, timetable = self.case, self.turned, self.timetable
        case.assertEqual(turned.beats(), len(timetable.lost))
        case.assertEqual(turned.rests(), self.rests())
        case.assertEqual(turned.plan(), self.newest)
        case.assertEqual(turned.under_way(), len(timetable.busy()))
        for place in range(self.newest.of_net.many):
            case.assertEqual(turned.heard(place), timetable.heard(place))
            case.assertEqual(turned.row(place), timetable.row(place))


class TurnedTest(unittest.TestCase):

    def run_steps(self, chance, model, plans, steps, percent):
        rested = 0
        for _ in range(steps):
            step = chance.randrange(10)
            lost = some_links(chance, model.newest.of_net, percent)
            if step < 2:
                model.turn(chance.choice(plans))
            elif step < 4:
                model.beat(None, lost)
            else:
                rested += model.rests() > 0
                model.beat(random_frame(chance, model.prime, model.newest.of_size), lost)
            model.check()
        return rested

    def test_against_a_timetable(self):
        chance = random.Random(91)
        rested = 0
        for _ in range(150):
            plans = like_plans(chance, 4)
            model = Model(self, plans[0], chance.choice(PRIMES))
            model.check()
            rested += self.run_steps(chance, model, plans, 30, chance.choice([0, 10, 30]))
        self.assertGreater(rested, 40)

    def test_deep_plans_that_rest_long(self):
        chance = random.Random(92)
        plans = [deep_plan(), flat_plan(), last_plan(), deep_plan(7), flat_plan(7), last_plan(7)]
        for _ in range(20):
            model = Model(self, chance.choice(plans), 5)
            self.run_steps(chance, model, plans, 40, chance.choice([0, 20]))

    def test_a_copy_goes_on_apart(self):
        chance = random.Random(93)
        for _ in range(20):
            plans = like_plans(chance, 3)
            model = Model(self, plans[0], 7)
            self.run_steps(chance, model, plans, 12, 10)
            other = model.copied()
            self.assertIs(other.turned.__class__, Turned)
            other.check()
            for _ in range(8):
                self.run_steps(chance, chance.choice([model, other]), plans, 2, 20)
                model.check()
                other.check()

    def test_each_beat_of_a_small_one(self):
        turned = Turned(deep_plan(), 7)
        self.assertEqual((turned.beats(), turned.rests(), turned.under_way()), (0, 0, 0))
        self.assertEqual(turned.beat((3,), ()), (((0, 0, 3),), ((0, 0, 3),), (), ()))
        self.assertEqual(turned.under_way(), 1)
        self.assertEqual(turned.beat(None, (3,)), ((), (), ((0, 0, 3),), ()))
        self.assertEqual(turned.beat((5,), (2,)), (((1, 0, 5),), ((1, 0, 5),), (), ()))
        self.assertEqual(turned.beat(None, ()), ((), (), ((1, 0, 5),), ()))
        self.assertEqual(turned.beat((6,), ()), (((2, 0, 6),), ((2, 0, 6),), (), ((1, 0, 5),)))
        # Place 3 hears of frame 1 first, and holds it.
        self.assertEqual((turned.heard(3), turned.row(3)), ({1: {0: 5}}, ()))
        self.assertEqual((turned.row(0), turned.row(1), turned.row(2)), (((3,), (5,), (6,)),) * 2 + (((3,), (5,)),))
        self.assertEqual(turned.beats(), 5)

    def test_words_go_on_along_their_own_trees(self):
        turned = Turned(deep_plan(), 7)
        turned.beat((3,), ())
        turned.turn(flat_plan())
        self.assertEqual(turned.rests(), 1)
        self.assertEqual(turned.beat(None, ()), ((), (), ((0, 0, 3),), ()))
        self.assertEqual(turned.rests(), 0)
        # Frame 1 goes straight to place 2 while frame 0 goes on from there to place 3.
        self.assertEqual(turned.beat((4,), ()), (((1, 0, 4),), (), ((1, 0, 4),), ((0, 0, 3),)))
        self.assertEqual(turned.beat(None, (0, 1)), ((), (), (), ((1, 0, 4),)))
        self.assertEqual(turned.beat(None, (2,)), ((), ((1, 0, 4),), (), ()))
        self.assertEqual([turned.row(place) for place in range(4)], [((3,), (4,))] * 4)

    def test_a_later_frame_that_comes_first(self):
        turned = Turned(deep_plan(), 7)
        turned.beat((3,), ())
        turned.turn(last_plan())
        self.assertEqual(turned.rests(), 0)
        turned.beat((4,), ())
        self.assertEqual((turned.heard(3), turned.row(3)), ({1: {0: 4}}, ()))
        self.assertEqual(turned.heard(2), {0: {0: 3}, 1: {0: 4}})
        turned.beat(None, ())
        self.assertEqual((turned.heard(3), turned.row(3)), ({0: {0: 3}, 1: {0: 4}}, ((3,), (4,))))


class RestsTest(unittest.TestCase):

    def far_plans(self):
        """Two plans of ten places, of which the first one rests seven beats for the second one."""
        pairs = tuple((place, place + 1) for place in range(9)) + ((0, 8), ) + tuple((9, place) for place in range(1, 8))
        net = Net(10, 0, pairs)
        return sized_plan(net, [range(9)], 1), sized_plan(net, [range(8, 17)], 1)

    def test_no_rest_ahead_of_the_first_frame(self):
        elder, newer = self.far_plans()
        turned = Turned(elder, 5)
        turned.turn(newer)
        self.assertEqual(turned.rests(), 0)
        turned.beat(None, ())
        turned.turn(elder)
        turned.turn(newer)
        self.assertEqual(turned.rests(), 0)
        self.assertEqual(turned.beat((1,), ())[8], ((0, 0, 1),))

    def test_rests_count_from_the_last_frame(self):
        elder, newer = self.far_plans()
        for none_ahead in range(10):
            turned = Turned(elder, 5)
            turned.beat((1,), ())
            turned.beat((2,), ())
            for _ in range(none_ahead):
                turned.beat(None, ())
            turned.turn(newer)
            left = max(0, 7 - none_ahead)
            self.assertEqual(turned.rests(), left)
            # Beats without a frame let the rest go on, and are let while it rests.
            while left > 0:
                with self.assertRaises(Resting) as caught:
                    turned.beat((3,), ())
                self.assertEqual(caught.exception.left, left)
                turned.beat(None, ())
                left -= 1
                self.assertEqual(turned.rests(), left)
            self.assertEqual(turned.beat((3,), ())[0], ((2, 0, 3),))
            self.assertEqual(turned.rests(), 0)

    def test_turned_twice_in_a_row(self):
        elder, newer = self.far_plans()
        turned = Turned(elder, 5)
        turned.beat((1,), ())
        turned.turn(newer)
        self.assertEqual(turned.rests(), 7)
        turned.turn(elder)
        self.assertEqual((turned.rests(), turned.plan()), (0, elder))
        turned.turn(newer)
        turned.turn(newer)
        self.assertEqual((turned.rests(), turned.plan()), (7, newer))

    def test_the_elder_plan_counts_while_its_words_are_under_way(self):
        # Behind a frame by the deep plan and one by the last one the flat plan waits for the deep one still.
        deep, flat, last = deep_plan(), flat_plan(), last_plan()
        self.assertEqual([least_rest(deep, last), least_rest(last, flat), least_rest(deep, flat)], [0, 0, 1])
        turned = Turned(deep, 5)
        turned.beat((1,), ())
        turned.turn(last)
        turned.turn(flat)
        self.assertEqual(turned.rests(), 1)
        turned.turn(last)
        turned.beat((2,), ())
        turned.turn(flat)
        self.assertEqual(turned.rests(), 0)
        elder, newer = self.far_plans()
        between = sized_plan(Net(10, 0, elder.of_net.links + tuple((0, place) for place in range(1, 10))),
                             [range(17, 26)], 1)
        turned = Turned(elder, 5)
        turned.beat((1,), ())
        turned.turn(between)
        turned.beat((2,), ())
        turned.turn(newer)
        # Seven beats behind the one that follows beat 0, of which one is done.
        self.assertEqual(turned.rests(), 6)
        for _ in range(6):
            turned.beat(None, ())
        turned.beat((3,), ())
        turned.turn(elder)
        self.assertEqual(turned.rests(), 0)

    def test_the_last_frame_of_a_plan_that_came_back(self):
        elder, newer = self.far_plans()
        turned = Turned(elder, 5)
        turned.beat((1,), ())
        turned.turn(newer)
        for _ in range(7):
            turned.beat(None, ())
        turned.beat((2,), ())
        turned.turn(sized_plan(elder.of_net, [range(9)], 1))
        turned.beat((3,), ())
        turned.turn(newer)
        self.assertEqual(turned.rests(), 7)

    def test_a_copy_rests_as_long(self):
        elder, newer = self.far_plans()
        turned = Turned(elder, 5)
        turned.beat((1,), ())
        before = turned.copy()
        turned.turn(newer)
        other = turned.copy()
        self.assertEqual((turned.rests(), other.rests(), before.rests()), (7, 7, 0))
        turned.beat(None, ())
        self.assertEqual((turned.rests(), other.rests()), (6, 7))
        # The plan by which a frame went counts for the copy, too.
        before.turn(newer)
        self.assertEqual(before.rests(), 7)

    def test_a_frame_lets_no_rest_begin(self):
        turned = Turned(deep_plan(), 5)
        for number in range(6):
            turned.beat((number % 5,), ())
            self.assertEqual(turned.rests(), 0)


class WrongArgumentsTest(unittest.TestCase):

    def state(self, turned):
        return (turned.beats(), turned.rests(), turned.under_way(), turned.plan(),
                [(turned.heard(place), turned.row(place)) for place in range(turned.plan().of_net.many)])

    def test_no_plan(self):
        for thing in no_plans():
            self.assertRaises(NoPlan, Turned, thing, "no prime")
        turned = Turned(deep_plan(), 5)
        turned.beat((1,), ())
        before = self.state(turned)
        for thing in no_plans() + [turned]:
            self.assertRaises(NoPlan, turned.turn, thing)
        self.assertEqual(self.state(turned), before)

    def test_no_prime(self):
        for thing in NO_PRIMES + odd_things():
            self.assertRaises(NoPrime, Turned, deep_plan(), thing)
        for trees in range(1, 13):
            for prime in PRIMES[:6]:
                if prime < trees:
                    self.assertRaises(NoPrime, Turned, star_plan(2, trees, 1), prime)
                else:
                    self.assertEqual(Turned(star_plan(2, trees, 1), prime).beats(), 0)

    def test_no_prime_in_a_turn(self):
        links = ((0, 1),) * 12
        small = Plan(Net(2, 0, links), ((0,),), 1)
        for prime in (5, 7, 11, 13):
            for trees in range(1, 13):
                turned = Turned(small, prime)
                turned.beat((1,), ())
                newer = Plan(Net(2, 0, links), tuple((link,) for link in range(trees)), 1)
                if trees > prime:
                    self.assertRaises(NoPrime, turned.turn, newer)
                    self.assertEqual(turned.plan(), small)
                else:
                    turned.turn(newer)
                    self.assertEqual(len(turned.beat((1,), ())[1]), trees)
        # Unlike comes first.
        unlike = Plan(Net(2, 0, links), tuple((link,) for link in range(12)), 2)
        self.assertRaises(Unlike, Turned(small, 5).turn, unlike)

    def test_no_frame(self):
        turned = Turned(star_plan(2, 3, 2), 5)
        bent = [(), (1,), (1, 2, 3), [1, 2], (1, 5), (-1, 1), (1, True), (False, 0), "12", 0, ((1, 2),), (1, None), False]
        before = self.state(turned)
        for thing in bent + odd_things():
            # None is no frame that is refused, and some odd things are frames of two values.
            if thing is not None and thing not in ((0, 0), (1, 0), (1, 1), (2, 1)):
                self.assertRaises(NoFrame, turned.beat, thing, "no lot")
                self.assertRaises(NoFrame, turned.beat, thing, ())
        for thing in ((True, 0), (1, False), (1, True)):
            self.assertRaises(NoFrame, turned.beat, thing, ())
        self.assertEqual(self.state(turned), before)

    def test_no_frame_comes_ahead_of_resting(self):
        turned = Turned(deep_plan(), 5)
        turned.beat((1,), ())
        turned.turn(flat_plan())
        self.assertRaises(NoFrame, turned.beat, (5,), "no lot")
        self.assertRaises(Resting, turned.beat, (4,), "no lot")
        self.assertRaises(NoLot, turned.beat, None, "no lot")
        self.assertEqual((turned.rests(), turned.beats()), (1, 1))

    def test_no_lot(self):
        turned = Turned(deep_plan(), 5)
        turned.beat((1,), ())
        before = self.state(turned)
        for thing in no_lots(turned.plan().of_net):
            self.assertRaises(NoLot, turned.beat, (1,), thing)
            self.assertRaises(NoLot, turned.beat, None, thing)
        self.assertEqual(self.state(turned), before)
        self.assertEqual(turned.beat((2,), ())[0], ((1, 0, 2),))

    def test_lots_of_the_newest_net(self):
        turned = Turned(deep_plan(), 5)
        self.assertRaises(NoLot, turned.beat, (1,), (6,))
        turned.turn(last_plan(7))
        turned.beat((1,), (6,))
        turned.turn(deep_plan())
        self.assertRaises(NoLot, turned.beat, (1,), (6,))
        turned.beat((1,), (5,))

    def test_unlike(self):
        turned = Turned(deep_plan(), 5)
        unlike = [line_plan(3, 1, 1), line_plan(5, 1, 1), line_plan(4, 2, 2), line_plan(4, 1, 1, ((1, 0),)),
                  Plan(Net(4, 1, LINE + ((1, 0),)), ((1, 2, 7),), 1)]
        before = self.state(turned)
        for plan in unlike:
            self.assertRaises(Unlike, turned.turn, plan)
        self.assertEqual(self.state(turned), before)

    def test_unlike_an_elder_plan(self):
        # The links of the first net are a beginning of both others, which are not like each other.
        first = Plan(Net(4, 0, LINE[:5]), ((0, 3, 4),), 1)
        one = Plan(Net(4, 0, LINE[:5] + ((3, 1),)), ((3, 4, 5),), 1)
        other = Plan(Net(4, 0, LINE[:5] + ((2, 1),)), ((3, 4, 5),), 1)
        # No frame went by the one.
        turned = Turned(one, 5)
        turned.turn(first)
        turned.turn(other)
        self.assertEqual(turned.plan(), other)
        turned = Turned(one, 5)
        turned.beat((1,), ())
        turned.turn(first)
        before = self.state(turned)
        self.assertRaises(Unlike, turned.turn, other)
        self.assertEqual(self.state(turned), before)
        for _ in range(20):
            turned.beat((2,), ())
        # However long ago it was.
        self.assertRaises(Unlike, turned.turn, other)
        turned.turn(one)
        turned = Turned(one, 5)
        self.assertRaises(Unlike, turned.turn, other)

    def test_no_place(self):
        turned = Turned(deep_plan(), 5)
        turned.beat((1,), ())
        for thing in no_places(turned.plan().of_net):
            self.assertRaises(NoPlace, turned.heard, thing)
            self.assertRaises(NoPlace, turned.row, thing)
        self.assertEqual((turned.heard(0), turned.row(0)), ({0: {0: 1}}, ((1,),)))

    def test_what_is_returned_is_new(self):
        turned = Turned(deep_plan(), 5)
        turned.beat((1,), ())
        found = turned.heard(1)
        found[0][0] = 2
        found[0][1] = 2
        found[1] = {}
        self.assertEqual(turned.heard(1), {0: {0: 1}})
        self.assertEqual(turned.beat(None, ()), ((), (), ((0, 0, 1),), ()))

    def test_it_is_equal_to_itself_alone(self):
        turned = Turned(deep_plan(), 5)
        self.assertTrue(turned == turned)
        for other in [turned.copy(), Turned(deep_plan(), 5), deep_plan(), None] + odd_things():
            self.assertFalse(turned == other)


class DepthsTest(unittest.TestCase):

    def test_the_plans_of_these_tests(self):
        self.assertEqual(depth_of_links(deep_plan()), {0: 1, 1: 2, 2: 3})
        self.assertEqual(depth_of_links(flat_plan()), {3: 1, 2: 2, 5: 3})
        self.assertEqual(depth_of_links(last_plan()), {0: 1, 3: 1, 4: 1})


if __name__ == "__main__":
    unittest.main()
