import itertools
import random
import unittest

from sparetrees.errors import Barred, NoLot, NoNet, NoNumber, NoPlace, NoPlan, TooMany
from sparetrees.losses import told_at
from sparetrees.nets import Net
from sparetrees.packing import packing_within
from sparetrees.plans import Plan, plan_for
from sparetrees.stops import greatest_spare, harm, is_harm, least_stop, stopped, stops
from tests.plan_samples import (
    depth_of_links, is_lot_apart, line_plan, no_lots, no_places, no_plans, plans, random_plan, sized_plan, some_links,
    star_plan, way_apart)
from tests.samples import count_of, enters, going_through, odd_things, random_net, small_nets, subsets


def stopped_apart(plan, lost):
    """Where no frame is told, by trying."""
    return tuple(place for place, beat in enumerate(told_at(plan, (tuple(lost),), 0)) if beat is None)


def other_places(plan):
    return [place for place in range(plan.of_net.many) if place != plan.of_net.root]


def spare_of(plan):
    return len(plan.by_trees) - plan.of_size


def product_of(plan, place):
    count = 1
    for tree in range(len(plan.by_trees)):
        count *= 1 + len(way_apart(plan, tree, place))
    return count


def small_plans(seed, count):
    chance = random.Random(seed)
    found = []
    while len(found) < count:
        many = chance.randrange(2, 5)
        trees = chance.randrange(1, 5)
        plan = random_plan(chance, many, trees, chance.randrange(2))
        if len(plan.of_net.links) <= 9:
            found.append(plan)
    return found


class StoppedTest(unittest.TestCase):

    def test_against_trying(self):
        chance = random.Random(60)
        for plan in plans(61, 40):
            for percent in (0, 5, 20, 50, 100):
                lost = some_links(chance, plan.of_net, percent)
                found = stopped(plan, lost)
                self.assertEqual(found, stopped_apart(plan, lost))
                self.assertIs(found.__class__, tuple)

    def test_all_lots_of_small_plans(self):
        for plan in small_plans(62, 25):
            for lost in subsets(range(len(plan.of_net.links))):
                self.assertEqual(stopped(plan, lost), stopped_apart(plan, lost))

    def test_no_links_and_all(self):
        for plan in plans():
            self.assertEqual(stopped(plan, ()), ())
            self.assertEqual(stopped(plan, tuple(range(len(plan.of_net.links)))), tuple(other_places(plan)))

    def test_links_of_one_way_or_one_of_each_tree(self):
        for plan in plans():
            for place in other_places(plan):
                way = tuple(sorted(way_apart(plan, 0, place)))
                self.assertEqual(place in stopped(plan, way), spare_of(plan) == 0)
                ends = sorted(way_apart(plan, tree, place)[-1] for tree in range(len(plan.by_trees)))
                self.assertIn(place, stopped(plan, tuple(ends)))

    def test_links_of_no_tree(self):
        plan = line_plan(4, 2, 2, ((0, 3), (2, 1), (3, 0)))
        self.assertEqual(stopped(plan, (6, 7, 8)), ())
        self.assertEqual(stopped(plan, (1, 6, 7, 8)), (2, 3))

    def test_as_many_links_as_are_spare(self):
        chance = random.Random(63)
        for plan in plans(64, 30):
            links = [link for tree in plan.by_trees for link in tree]
            for _ in range(10):
                lost = sorted(chance.sample(links, min(len(links), spare_of(plan))))
                self.assertEqual(stopped(plan, tuple(lost)), ())

    def test_a_root_that_is_not_the_first_place(self):
        plan = sized_plan(Net(3, 1, ((1, 0), (0, 2), (1, 2), (2, 0))), [(0, 1), (2, 3)], 2)
        self.assertEqual([stopped(plan, (link,)) for link in range(4)], [(0, 2), (2,), (0, 2), (0,)])

    def test_e07(self):
        plan = plan_for(Net(2, 0, ((0, 1), (0, 1), (0, 1))), 2, 1)
        self.assertEqual((stopped(plan, (0,)), stopped(plan, (0, 2))), ((), (1,)))

    def test_wrong_arguments(self):
        plan = line_plan(3, 1, 1)
        for thing in no_plans():
            self.assertRaises(NoPlan, stopped, thing, "no lot")
        for thing in no_lots(plan.of_net):
            self.assertRaises(NoLot, stopped, plan, thing)


class StopsTest(unittest.TestCase):

    def least_apart(self, plan, place):
        """All least lots by whose loss a place is stopped, all lots of links being tried."""
        stopping = []
        for lost in sorted(subsets(range(len(plan.of_net.links))), key=lambda lot: (len(lot), lot)):
            if not any(set(less) <= set(lost) for less in stopping) and place in stopped_apart(plan, lost):
                stopping.append(lost)
        return stopping

    def test_small_plans_by_trying(self):
        for plan in small_plans(65, 40):
            found = {place: stops(plan, place) for place in other_places(plan)}
            for place, lots in found.items():
                self.assertIs(lots.__class__, list)
                self.assertEqual(lots, self.least_apart(plan, place))
            every = sorted((lot for lots in found.values() for lot in lots), key=lambda lot: (len(lot), lot))
            self.assertEqual(least_stop(plan), every[0])

    def made(self, plan, place):
        ways = [way_apart(plan, tree, place) for tree in range(len(plan.by_trees))]
        count = spare_of(plan) + 1
        return sorted(tuple(sorted(lot)) for some in itertools.combinations(ways, count)
                      for lot in itertools.product(*some))

    def test_each_of_them_has_links_of_as_many_trees(self):
        made = 0
        for plan in plans(66, 40):
            few = [place for place in other_places(plan) if product_of(plan, place) <= 20000]
            for place in few:
                found = stops(plan, place)
                self.assertEqual(found, self.made(plan, place))
                made += len(found)
                for lot in found[:5] + found[-5:]:
                    self.assertEqual(len(lot), spare_of(plan) + 1)
                    owners = [at for at, tree in enumerate(plan.by_trees) for link in lot if link in tree]
                    self.assertEqual(len(set(owners)), len(lot))
                    self.assertIn(place, stopped(plan, lot))
                    for link in lot:
                        self.assertNotIn(place, stopped(plan, tuple(other for other in lot if other != link)))
            if len(few) == len(other_places(plan)):
                self.assertEqual(least_stop(plan), min(lot for place in few for lot in self.made(plan, place)))
        self.assertGreater(made, 2000)

    def test_least_of_all_places(self):
        # The last place has the first lot.
        plan = sized_plan(Net(4, 0, ((0, 3), (0, 3), (0, 2), (0, 1), (3, 1), (3, 2))), [(0, 4, 5)], 1)
        self.assertEqual(least_stop(plan), (0,))
        plan = sized_plan(Net(3, 0, ((0, 2), (0, 1), (0, 1), (0, 2))), [(0, 1), (2, 3)], 1)
        self.assertEqual((stops(plan, 1), stops(plan, 2), least_stop(plan)), ([(1, 2)], [(0, 3)], (0, 3)))

    def depths_plan(self, depths):
        """A plan of a last place that is so deep in its trees."""
        pairs, lots = [], []
        for depth in depths:
            # The last place is 9; the others are led to behind it, from the root.
            way = [0] + list(range(1, depth)) + [9]
            rest = [place for place in range(1, 9) if place not in way]
            lots.append([])
            for pair in list(zip(way, way[1:])) + [(0, place) for place in rest]:
                lots[-1].append(len(pairs))
                pairs.append(pair)
        return sized_plan(Net(10, 0, tuple(pairs)), lots, 1)

    def test_just_as_many_as_are_let(self):
        # (1 + 9) * (1 + 9) * .. = 10 ** 4 * 2 = 20000, with five trees of at most nine links each.
        plan = self.depths_plan((9, 9, 9, 9, 1))
        self.assertEqual(product_of(plan, 9), 20000)
        self.assertEqual(len(stops(plan, 9)), 9 ** 4)
        self.assertEqual(least_stop(plan)[0], 0)
        more = self.depths_plan((9, 9, 9, 9, 2))
        self.assertEqual(product_of(more, 9), 30000)
        for function, args in ((stops, (more, 9)), (least_stop, (more,))):
            with self.assertRaises(TooMany) as caught:
                function(*args)
            self.assertEqual(caught.exception.most, 20000)
        self.assertEqual(len(stops(more, 8)), 8 ** 4)

    def test_about_as_many_as_are_let(self):
        # 9 * 9 * 8 * 6 * 5 = 19440; 9 * 8 * 8 * 7 * 5 = 20160; 10 * 8 * 7 * 6 * 6 = 20160.
        self.assertEqual(len(stops(self.depths_plan((8, 8, 7, 5, 4)), 9)), 8 * 8 * 7 * 5 * 4)
        for depths in ((8, 7, 7, 6, 4), (9, 7, 6, 5, 5), (9, 9, 9, 4, 4), (9, 9, 9, 9, 9)):
            self.assertRaises(TooMany, stops, self.depths_plan(depths), 9)
            self.assertRaises(TooMany, least_stop, self.depths_plan(depths))

    def test_flat_plans(self):
        plan = star_plan(2, 12, 8)
        found = stops(plan, 1)
        self.assertEqual(found, list(itertools.combinations(range(12), 5)))
        self.assertEqual(least_stop(plan), (0, 1, 2, 3, 4))
        self.assertEqual(stops(line_plan(4, 1, 1), 3), [(0,), (1,), (2,)])

    def test_lists_are_new(self):
        plan = line_plan(4, 1, 1)
        stops(plan, 3).clear()
        self.assertEqual(stops(plan, 3), [(0,), (1,), (2,)])

    def test_wrong_arguments(self):
        plan = self.depths_plan((9, 9, 9, 9, 9))
        for thing in no_plans():
            self.assertRaises(NoPlan, stops, thing, "no place")
            self.assertRaises(NoPlan, least_stop, thing)
        for thing in no_places(plan.of_net) + [0]:
            self.assertRaises(NoPlace, stops, plan, thing)
        plan = sized_plan(Net(3, 1, ((1, 0), (0, 2))), [(0, 1)], 1)
        self.assertRaises(NoPlace, stops, plan, 1)
        self.assertEqual(stops(plan, 0), [(0,)])


def supply_apart(net):
    return min(count_of(net, range(len(net.links)), side) for side in going_through(net))


class HarmTest(unittest.TestCase):

    def nets(self):
        chance = random.Random(67)
        nets = small_nets(chance, 40, 5, 24) + [random_net(chance, 10, 60), Net(2, 0, ((0, 1),) * 60), Net(2, 1, ())]
        return nets + [plan.of_net for plan in plans(68, 15)]

    def harm_apart(self, net, size, thing):
        if type(thing) is not tuple or len(thing) != 2:
            return False
        side, lot = thing
        if not is_lot_apart(side, net.many) or side == () or net.root in side:
            return False
        if not is_lot_apart(lot, len(net.links)) or not all(enters(net, link, side) for link in lot):
            return False
        return count_of(net, range(len(net.links)), side) - len(lot) < size

    def test_greatest_spare(self):
        found = []
        for net in self.nets():
            for size in range(1, 9):
                spare = supply_apart(net) - size
                self.assertEqual(greatest_spare(net, size), spare if spare >= 0 else None)
                found.append(spare)
        self.assertTrue({-1, 0, 1, 2} <= set(found))
        self.assertEqual([greatest_spare(Net(2, 0, ((0, 1),) * 60), size) for size in (1, 8)], [59, 52])
        self.assertEqual([greatest_spare(Net(2, 0, ((0, 1),) * 2 + ((1, 0),) * 9), size) for size in (1, 2, 3, 8)],
                         [1, 0, None, None])

    def test_harm(self):
        for net in self.nets():
            for size in range(1, 9):
                spare = greatest_spare(net, size)
                found = harm(net, size)
                self.assertTrue(self.harm_apart(net, size, found), found)
                self.assertIs(is_harm(net, size, found), True)
                self.assertEqual(len(found[1]), 0 if spare is None else spare + 1)

    def test_no_lot_of_fewer_links_does(self):
        for net in small_nets(random.Random(69), 25, 4, 9):
            for size in (1, 2):
                fewest = len(harm(net, size)[1])
                for lot in subsets(range(len(net.links))):
                    for side in going_through(net):
                        right = self.harm_apart(net, size, (side, lot))
                        self.assertIs(is_harm(net, size, (side, lot)), right)
                        self.assertTrue(not right or len(lot) >= fewest)

    def test_links_more_or_less(self):
        net = Net(4, 0, ((0, 1), (0, 2), (1, 2), (2, 1), (0, 1), (3, 0), (0, 3), (2, 3), (1, 3)))
        self.assertIs(is_harm(net, 1, ((1,), (0, 3, 4))), True)
        self.assertIs(is_harm(net, 2, ((1,), (0, 3))), True)
        # More links than are needed do harm, too.
        self.assertIs(is_harm(net, 2, ((1,), (0, 3, 4))), True)
        self.assertIs(is_harm(net, 3, ((1,), (3,))), True)
        self.assertIs(is_harm(net, 4, ((1,), ())), True)
        wrong = [
            (2, ((1,), (3,))), (3, ((1,), ())), (2, ((2,), (0, 3))), (2, ((1, 2), (0, 3))), (2, ((1,), (0, 1))),
            (2, ((1,), (0, 3, 5))), (2, ((1,), (3, 0))), (2, ((1,), (0, 0, 3))), (2, ((1,), [0, 3])), (2, [(1,), (0, 3)]),
            (2, ((True,), (0, 3))), (2, ((1,), (False, 3))), (2, ((1,), (0, 3), ())), (2, ((1,),)), (2, ((), (0, 3))),
            (2, ((0, 1), (0, 3))), (2, ((1, 1), (0, 3))), (2, ([1], (0, 3))), (2, (1, (0, 3))), (2, ((1,), (0, 9))),
            (2, ((4,), (0, 3))), (2, ((1,), 0)), (2, ((1,), None)), (2, None), (2, ()), (2, ((2, 1), (0, 1, 4))),
            (8, None), (8, ()), (8, ((), ())), (8, ((0,), ())), (8, net), (2, ((0, 3), (1,))), (2, ((1,), (-1, 0, 3))),
        ]
        for size, thing in wrong:
            self.assertIs(is_harm(net, size, thing), False, (size, thing))

    def test_any_thing(self):
        net = Net(3, 0, ((0, 1), (0, 2), (1, 2), (2, 1)))
        for thing in odd_things():
            for whole in (thing, (thing, thing), ((1,), thing), (thing, ()), (thing, (0,)), ((1,), thing, ())):
                self.assertIs(is_harm(net, 8, whole), self.harm_apart(net, 8, whole))

    def test_wrong_arguments(self):
        net = Net(2, 0, ((0, 1),))
        for thing in odd_things() + [0, (), (3, 0, ())]:
            self.assertRaises(NoNet, greatest_spare, thing, "no size")
            self.assertRaises(NoNet, harm, thing, "no size")
            self.assertRaises(NoNet, is_harm, thing, "no size", None)
        for thing in odd_things() + [0, 9, -1, 12, True, "1", (1,), 10 ** 59]:
            self.assertRaises(NoNumber, greatest_spare, net, thing)
            self.assertRaises(NoNumber, harm, net, thing)
            self.assertRaises(NoNumber, is_harm, net, thing, None)
        for size in range(1, 9):
            self.assertEqual(greatest_spare(net, size), 0 if size == 1 else None)


class GreatFactTest(unittest.TestCase):

    def nets(self):
        chance = random.Random(70)
        nets = [random_net(chance, chance.randrange(2, 5), chance.randrange(2, 14)) for _ in range(40)]
        return nets + [Net(2, 0, ((0, 1),) * links) for links in (1, 5, 12)]

    def test_plan_for_with_greatest_spare(self):
        made = 0
        for net in self.nets():
            for size in range(1, 9):
                spare = greatest_spare(net, size)
                if spare is None:
                    self.assertRaises(Barred, plan_for, net, size, 0)
                    continue
                plan = plan_for(net, size, spare)
                made += 1
                if size + spare < 12:
                    self.assertRaises(Barred, plan_for, net, size, spare + 1)
                # With as many links lost for ever as are spare no place is stopped.
                for lost in itertools.combinations(range(len(net.links)), spare):
                    self.assertEqual(stopped(plan, lost), ())
                stop = least_stop(plan)
                self.assertEqual(len(stop), spare + 1)
                self.assertNotEqual(stopped(plan, stop), ())
        self.assertGreater(made, 40)

    def test_behind_a_harm_no_plan_can_be_made(self):
        for net in self.nets():
            for size in range(1, 9):
                side, lot = harm(net, size)
                rest = tuple(link for link in range(len(net.links)) if link not in lot)
                self.assertRaises(Barred, packing_within, net, rest, size)
                left = Net(net.many, net.root, tuple(net.links[link] for link in rest))
                self.assertRaises(Barred, plan_for, left, size, 0)
                # Any plan of the size is stopped at some place of the side.
                if greatest_spare(net, size) is not None:
                    plan = plan_for(net, size, greatest_spare(net, size))
                    self.assertTrue(set(stopped(plan, lot)) & set(side))

    def test_depths_do_not_matter(self):
        for plan in plans(71, 20):
            self.assertLessEqual(max(depth_of_links(plan).values()), plan.of_net.many - 1)
            self.assertIs(Plan(plan.of_net, plan.by_trees, 1) == plan, plan.of_size == 1)


if __name__ == "__main__":
    unittest.main()
