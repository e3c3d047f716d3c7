import itertools
import random
import unittest

from sparetrees.errors import NoLosses, NoNet, NoNumber, NoPlan
from sparetrees.losses import hears, is_losses, spent, told_at
from sparetrees.nets import Net
from sparetrees.plans import Plan, deepest
from tests.plan_samples import (
    is_lot_apart, line_plan, lot_in, no_plans, plans, random_losses, random_plan, some_links, star_plan, way_apart)
from tests.samples import odd_things


def losses_apart(net, thing):
    return type(thing) is tuple and len(thing) <= 60 and all(is_lot_apart(lot, len(net.links)) for lot in thing)


def walk(plan, losses, number):
    """What hears tells, beat by beat along the trees."""
    net = plan.of_net
    heard = {(net.root, tree): number for tree in range(len(plan.by_trees))}
    for beat in range(number, number + net.many):
        lost = lot_in(losses, beat)
        for tree, lot in enumerate(plan.by_trees):
            for link in lot:
                start, end = net.links[link]
                if heard.get((start, tree)) == beat and link not in lost:
                    heard[end, tree] = beat + 1
    return tuple(tuple(sorted((beat, tree) for (where, tree), beat in heard.items() if where == place))
                 for place in range(net.many))


class IsLossesTest(unittest.TestCase):

    def setUp(self):
        self.net = Net(3, 0, ((0, 1), (1, 2), (0, 2), (2, 1)))

    def test_right_ones(self):
        for thing in ((), ((),), ((0,),), ((0,), (), (0, 1, 2, 3)), ((0, 3),) * 60, ((3,), (0,)), ((1, 2), (1, 2))):
            self.assertIs(is_losses(self.net, thing), True)
        self.assertIs(is_losses(Net(2, 0, ()), ((), ())), True)

    def test_wrong_ones(self):
        bent = [
            ((0,),) * 61, ((),) * 61, ((4,),), ((0, 4),), ((1, 0),), ((0, 0),), ((-1,),), ((0,), (3, 2)), ([0],),
            [(0,)], [], (0,), ((0, True),), ((False,),), ((0,), None), ((0,), 1), {(0,): 1}, {}, "", None, 0, self.net,
            ((0,), [1]), ((0,), (1,), ("2",)), (((0,),),), range(0), {0: (0,)},
        ]
        for thing in bent:
            self.assertIs(is_losses(self.net, thing), False)
            self.assertRaises(NoLosses, spent, self.net, thing, "no number")
            self.assertRaises(NoLosses, spent, self.net, thing, 1)
            plan = Plan(self.net, ((0, 1),), 1)
            for function in (hears, told_at):
                self.assertRaises(NoLosses, function, plan, thing, "no number")
                self.assertRaises(NoLosses, function, plan, thing, 0)

    def test_any_thing(self):
        plan = Plan(self.net, ((0, 1),), 1)
        found = []
        for thing in odd_things() + [(thing,) for thing in odd_things()]:
            right = losses_apart(self.net, thing)
            self.assertIs(is_losses(self.net, thing), right)
            found.append(right)
            for function, args in ((spent, (self.net, thing, 1)), (hears, (plan, thing, 0)), (told_at, (plan, thing, 0))):
                if right:
                    function(*args)
                else:
                    self.assertRaises(NoLosses, function, *args)
        self.assertEqual(set(found), {True, False})

    def test_no_net(self):
        for thing in odd_things() + [0, (), (3, 0, ()), Plan(self.net, ((0, 1),), 1)]:
            self.assertRaises(NoNet, is_losses, thing, ())
            self.assertRaises(NoNet, spent, thing, "no losses", "no number")


class SpentTest(unittest.TestCase):

    def apart(self, losses, span):
        rows = [lot_in(losses, beat) for beat in range(125)]
        return max(len({link for lot in rows[first:first + span] for link in lot}) for first in range(64))

    def test_against_all_spans(self):
        chance = random.Random(32)
        net = Net(5, 0, tuple((0, 1 + number % 4) for number in range(30)))
        for lots in [0, 1, 2, 3, 5, 8, 13, 30, 59, 60] * 3:
            losses = random_losses(chance, net, lots, chance.choice([1, 4, 10]))
            for span in (1, 2, 3, 5, 9, 30, 59, 60):
                self.assertEqual(spent(net, losses, span), self.apart(losses, span))

    def test_small_ones(self):
        net = Net(2, 0, ((0, 1),) * 4)
        for span in range(1, 61):
            self.assertEqual(spent(net, (), span), 0)
            self.assertEqual(spent(net, ((),), span), 0)
            self.assertEqual(spent(net, ((0, 2),), span), 2)
            # The same link in two beats counts once.
            self.assertEqual(spent(net, ((0, 2), (0,), (2,)), span), 2)
        self.assertEqual([spent(net, ((0,), (3,)), span) for span in (1, 2, 3)], [1, 2, 2])
        self.assertEqual([spent(net, ((0,), (1,), (0,), (2,)), span) for span in (1, 2, 3, 4)], [1, 2, 3, 3])
        self.assertEqual([spent(net, ((), (0, 1), (), (), (2, 3)), span) for span in (1, 3, 4)], [2, 2, 4])

    def test_the_last_lot_goes_on(self):
        net = Net(2, 0, ((0, 1),) * 5)
        losses = ((4,),) + ((),) * 8 + ((0, 1, 2),)
        self.assertEqual([spent(net, losses, span) for span in (1, 2, 9, 10, 60)], [3, 3, 3, 4, 4])
        # What is lost behind the last lot is not lost ahead of it.
        self.assertEqual(spent(net, ((0, 1, 2), (3,)), 1), 3)
        self.assertEqual(spent(net, ((),) * 59 + ((0, 1, 2, 3, 4),), 1), 5)

    def test_no_number(self):
        net = Net(2, 0, ((0, 1),))
        for thing in odd_things() + [0, 61, -1, True, "1", (1,), 10 ** 59]:
            self.assertRaises(NoNumber, spent, net, ((0,),), thing)
        self.assertEqual((spent(net, ((0,),), 1), spent(net, ((0,),), 60)), (1, 1))


class HearsTest(unittest.TestCase):

    def check(self, plan, losses, number):
        found = hears(plan, losses, number)
        self.assertEqual(found, walk(plan, losses, number))
        self.assertIs(found.__class__, tuple)
        self.assertEqual({row.__class__ for row in found}, {tuple})
        size = plan.of_size
        expected = tuple(row[size - 1][0] if len(row) >= size else None for row in found)
        self.assertEqual(told_at(plan, losses, number), expected)
        return expected

    def test_against_a_walk_along_the_trees(self):
        chance = random.Random(33)
        told, untold = 0, 0
        for plan in plans():
            for lots in (0, 1, 2, 4, 20, 60):
                for percent in (3, 15, 50):
                    losses = random_losses(chance, plan.of_net, lots, percent)
                    for number in {0, 1, 2, lots, lots + 5, max(0, lots - 2)}:
                        beats = self.check(plan, losses, number)
                        told += sum(beat is not None for beat in beats)
                        untold += sum(beat is None for beat in beats)
        self.assertGreater(min(told, untold), 500)

    def test_all_losses_of_a_small_plan(self):
        net = Net(3, 0, ((0, 1), (1, 2), (0, 2), (2, 1)))
        lots = [(), (0,), (1,), (2,), (3,), (0, 2), (1, 3), (0, 1, 2, 3)]
        for plan in (Plan(net, ((0, 1), (2, 3)), 1), Plan(net, ((2, 3), (0, 1)), 2), Plan(net, ((0, 2),), 1)):
            for losses in itertools.product(lots, repeat=3):
                for number in range(5):
                    self.check(plan, losses, number)

    def test_nothing_lost(self):
        plan = line_plan(4, 2, 2)
        self.assertEqual(hears(plan, (), 7), (((7, 0), (7, 1)), ((8, 0), (8, 1)), ((9, 0), (9, 1)), ((10, 0), (10, 1))))
        self.assertEqual(told_at(plan, (), 7), (7, 8, 9, 10))
        # At the root all words are heard at the frame's beat, whatever is lost.
        lost = tuple(range(len(plan.of_net.links)))
        self.assertEqual(hears(plan, (lost,), 7), (((7, 0), (7, 1)), (), (), ()))
        self.assertEqual(told_at(plan, (lost,), 7), (7, None, None, None))

    def test_the_kth_word_tells(self):
        # Trees of place 3 that are of depths 3, 1 and 2.
        net = Net(4, 0, ((0, 1), (1, 2), (2, 3), (0, 3), (3, 1), (3, 2), (0, 2), (2, 1), (2, 3)))
        trees = ((0, 1, 2), (3, 4, 5), (6, 7, 8))
        for size, beat in ((1, 11), (2, 12), (3, 13)):
            plan = Plan(net, trees, size)
            self.assertEqual(hears(plan, (), 10)[3], ((11, 1), (12, 2), (13, 0)))
            self.assertEqual(told_at(plan, (), 10)[3], beat)
            later = told_at(plan, ((3,),), 10)[3]
            self.assertEqual(later, {1: 12, 2: 13, 3: None}[size])

    def test_a_link_is_lost_only_in_its_beat(self):
        plan = line_plan(4, 1, 1)
        for link in range(3):
            for beat in range(6):
                losses = ((),) * beat + ((link,), ())
                for number in range(6):
                    lost = number + link == beat
                    row = hears(plan, losses, number)
                    self.assertEqual([len(pairs) for pairs in row[1:]], [int(at < link or not lost) for at in range(3)])

    def test_great_numbers(self):
        plan = line_plan(4, 2, 1)
        for number in (59, 60, 61, 1000, 10 ** 6 - 1, 10 ** 6):
            self.assertEqual(told_at(plan, (), number), tuple(number + depth for depth in range(4)))
            losses = ((),) * 59 + ((1, 3),)
            if number > 60:
                self.assertEqual(told_at(plan, losses, number), (number, number + 1, None, None))
        for thing in odd_things() + [-1, 10 ** 6 + 1, 10 ** 59, True, "0", (0,)]:
            for function in (hears, told_at):
                self.assertRaises(NoNumber, function, plan, (), thing)

    def test_no_plan(self):
        for thing in no_plans():
            for function in (hears, told_at):
                self.assertRaises(NoPlan, function, thing, "no losses", "no number")


class StepOfHearingTest(unittest.TestCase):

    def losses_within(self, chance, plan, most):
        """Losses of which within any deepest beats at most so many unlike links are."""
        span = deepest(plan)
        rows = []
        for _ in range(chance.randrange(1, 61)):
            near = [link for lot in rows[len(rows) - span + 1:] if span > 1 for link in lot]
            free = list(some_links(chance, plan.of_net, 100))
            chance.shuffle(free)
            lot = []
            for link in free[:chance.randrange(len(free) + 1)]:
                if len(set(near + lot + [link])) <= most:
                    lot.append(link)
            rows.append(tuple(sorted(lot)))
        return tuple(rows)

    def test_within_what_is_spare(self):
        chance = random.Random(34)
        tried = 0
        for plan in plans(35, 60):
            spare = len(plan.by_trees) - plan.of_size
            for _ in range(6):
                losses = self.losses_within(chance, plan, spare)
                if spent(plan.of_net, losses, deepest(plan)) > spare:
                    continue
                tried += 1
                for number in list(range(0, 64, 3)) + [10 ** 6]:
                    for beat in told_at(plan, losses, number):
                        self.assertIsNotNone(beat)
                        self.assertLessEqual(beat, number + deepest(plan))
        self.assertGreater(tried, 200)

    def test_one_link_more(self):
        # One link more of the ways of one frame to one place, each in its beat, stops it there.
        chance = random.Random(36)
        for plan in plans(37, 40):
            spare = len(plan.by_trees) - plan.of_size
            place = chance.choice([place for place in range(plan.of_net.many) if place != plan.of_net.root])
            number = chance.randrange(20)
            rows = [[] for _ in range(number + 12)]
            for tree in chance.sample(range(len(plan.by_trees)), spare + 1):
                way = way_apart(plan, tree, place)
                at = chance.randrange(len(way))
                rows[number + at].append(way[at])
            losses = tuple(tuple(sorted(row)) for row in rows)
            self.assertEqual(spent(plan.of_net, losses, deepest(plan)), spare + 1)
            self.assertIsNone(told_at(plan, losses, number)[place])

    def test_flat_plans_lose_at_once(self):
        plan = star_plan(3, 3, 2)
        self.assertEqual(told_at(plan, ((0,),), 0), (0, 1, 1))
        self.assertEqual(told_at(plan, ((0, 2),), 0), (0, None, 1))
        self.assertEqual(told_at(plan, ((0, 2), ()), 1), (1, 2, 2))
        self.assertEqual(told_at(random_plan(random.Random(2), 2, 3, 0, 3, 1), ((0,),), 0), (None, 0))


if __name__ == "__main__":
    unittest.main()
