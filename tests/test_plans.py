import random
import unittest

from sparetrees.errors import Barred, NoNet, NoNumber, NoPacking, NoPlan
from sparetrees.nets import Net
from sparetrees.packing import is_packing
from sparetrees.plans import Plan, deepest, plan_for
from tests.plan_samples import (
    depth_of_links, line_plan, no_plans, plans, random_plan, sized_plan, star_plan, way_apart)
from tests.samples import count_of, going_through, no_link_twice, odd_things, rich_nets, small_nets, tree_apart


def two_way_net():
    """Root 0; 0 -> 1, 1 -> 2, 0 -> 2, 2 -> 1, and 1 -> 0."""
    return Net(3, 0, ((0, 1), (1, 2), (0, 2), (2, 1), (1, 0)))


class PlanTest(unittest.TestCase):

    def test_what_it_keeps(self):
        net = two_way_net()
        for size in (1, 2):
            plan = Plan(net, ((0, 1), (2, 3)), size)
            self.assertIs(plan.of_net, net)
            self.assertEqual(plan.by_trees, ((0, 1), (2, 3)))
            self.assertEqual(plan.of_size, size)
            self.assertEqual(sorted(vars(plan)), ["by_trees", "of_net", "of_size"])

    def test_equality(self):
        net = two_way_net()
        plan = Plan(net, ((0, 1), (2, 3)), 1)
        same = Plan(Net(3, 0, net.links), ((0, 1), (2, 3)), 1)
        self.assertTrue(plan == same)
        self.assertFalse(plan != same)
        unlike = [
            Plan(Net(3, 0, net.links + ((0, 1),)), ((0, 1), (2, 3)), 1), Plan(net, ((2, 3), (0, 1)), 1),
            Plan(net, ((0, 1), (2, 3)), 2), Plan(net, ((0, 1),), 1), Plan(net, ((0, 2), ), 1),
            Plan(Net(4, 0, net.links + ((0, 3), (0, 3))), ((0, 1, 5), (2, 3, 6)), 1),
        ]
        for other in unlike:
            self.assertFalse(plan == other)
            self.assertFalse(other == plan)
            self.assertTrue(plan != other)
        for other in odd_things() + [net, (net, ((0, 1), (2, 3)), 1), ((0, 1), (2, 3)), 1, vars(plan)]:
            self.assertFalse(plan == other)
            self.assertTrue(plan != other)

    def test_it_never_changes(self):
        plan = line_plan(4, 2, 1)
        trees, links = plan.by_trees, plan.of_net.links
        deepest(plan)
        self.assertEqual((plan.by_trees, plan.of_net.links, plan.of_size), (trees, links, 1))

    def test_no_net(self):
        for thing in odd_things() + [0, (), ((0, 1),), (3, 0, ())]:
            self.assertRaises(NoNet, Plan, thing, "no trees", "no size")
            self.assertRaises(NoNet, plan_for, thing, "no size", "no spare")

    def test_no_packing(self):
        net = two_way_net()
        bent = [
            (), [], [(0, 1)], ((0, 1), [2, 3]), ((0, 1), (0, 2)), ((0, 1), (1, 2)), ((0, 1), (0, 1)), ((0,),), ((),),
            ((0, 1, 2),), ((1, 3),), ((1, 0),), ((0, 1), (2, 5)), ((0, 1), (2, -2)), ((False, 1),), ((0, True),),
            ((0, 1), (2, 3), ()), (0, 1), 0, None, "", net, {(0, 1): 1}, ((0, 1), None), ((0, 4),), (((0, 1), (2, 3)),),
        ]
        for thing in bent + odd_things():
            self.assertRaises(NoPacking, Plan, net, thing, "no size")
            self.assertRaises(NoPacking, Plan, net, thing, 1)

    def test_at_most_twelve_trees(self):
        net = Net(2, 0, ((0, 1),) * 60)
        trees = tuple((link,) for link in range(60))
        for many in range(61):
            if 1 <= many <= 12:
                self.assertEqual(Plan(net, trees[:many], 1).by_trees, trees[:many])
            else:
                self.assertRaises(NoPacking, Plan, net, trees[:many], 1)

    def test_sizes(self):
        net = Net(2, 0, ((0, 1),) * 12)
        for many in range(1, 13):
            trees = tuple((link,) for link in range(many))
            for size in range(-1, 14):
                if 1 <= size <= min(8, many):
                    self.assertEqual(Plan(net, trees, size).of_size, size)
                else:
                    self.assertRaises(NoNumber, Plan, net, trees, size)
            for thing in odd_things() + [True, "1", (1,), 10 ** 59]:
                self.assertRaises(NoNumber, Plan, net, trees, thing)


class PlanForTest(unittest.TestCase):

    def first_barred(self, net, many):
        lot = range(len(net.links))
        return next((side for side in going_through(net) if count_of(net, lot, side) < many), None)

    def check(self, net, size, spare):
        expected = self.first_barred(net, size + spare)
        if expected is None:
            plan = plan_for(net, size, spare)
            self.assertIs(plan.__class__, Plan)
            self.assertIs(plan.of_net.__class__, Net)
            self.assertEqual((plan.of_net, plan.of_size, len(plan.by_trees)), (net, size, size + spare))
            self.assertTrue(all(tree_apart(net, tree) for tree in plan.by_trees))
            self.assertTrue(no_link_twice(plan.by_trees))
            self.assertTrue(is_packing(net, plan.by_trees))
        else:
            with self.assertRaises(Barred) as caught:
                plan_for(net, size, spare)
            self.assertEqual(caught.exception.side, expected)
        return expected is None

    def test_just_where_no_side_bars_it(self):
        found = []
        for net in small_nets(random.Random(31), 60, 5, 20) + rich_nets()[:20]:
            for size in (1, 2, 8):
                for spare in (0, 1, 12 - size):
                    found.append(self.check(net, size, spare))
        self.assertGreater(min(found.count(True), found.count(False)), 60)

    def test_all_sizes_and_spares(self):
        net = Net(2, 1, ((1, 0),) * 12)
        for size in range(1, 9):
            for spare in range(13 - size):
                self.assertTrue(self.check(net, size, spare))
        net = Net(2, 1, ((1, 0),) * 11)
        for size in range(1, 9):
            self.assertTrue(self.check(net, size, 11 - size))
            self.assertFalse(self.check(net, size, 12 - size))

    def test_the_first_side(self):
        # Places 2 and 3 lack, and both together, but not place 1.
        net = Net(4, 0, ((0, 1), (0, 1), (0, 1), (1, 2), (2, 3), (3, 2), (0, 3)))
        for size, spare, side in ((1, 2, (2,)), (2, 1, (2,)), (3, 1, (1,))):
            with self.assertRaises(Barred) as caught:
                plan_for(net, size, spare)
            self.assertEqual(caught.exception.side, side)
        net = Net(3, 0, ((0, 1), (1, 2), (1, 2), (2, 1)))
        with self.assertRaises(Barred) as caught:
            plan_for(net, 1, 1)
        self.assertEqual(caught.exception.side, (1, 2))

    def test_no_number(self):
        net = Net(2, 0, ())
        for size in [0, 9, 10, 12, -1, True, "1", 10 ** 59] + odd_things():
            self.assertRaises(NoNumber, plan_for, net, size, 0)
            self.assertRaises(NoNumber, plan_for, net, size, "no spare")
        for size in range(1, 9):
            for spare in [-1, 13 - size, 14 - size, 12, 60, False, "0", 10 ** 59, None] + odd_things():
                if not isinstance(spare, int) or isinstance(spare, bool) or not 0 <= spare <= 12 - size:
                    self.assertRaises(NoNumber, plan_for, net, size, spare)
            # Barred comes behind both numbers.
            for spare in (0, 12 - size):
                self.assertRaises(Barred, plan_for, net, size, spare)


class DeepestTest(unittest.TestCase):

    def test_flat_and_deep_trees(self):
        for many in range(2, 11):
            self.assertEqual(deepest(star_plan(many, 2, 1)), 1)
            self.assertEqual(deepest(line_plan(many, 2, 1)), many - 1)

    def test_the_greatest_of_all_trees(self):
        net = Net(4, 0, ((0, 1), (0, 2), (0, 3), (0, 1), (1, 2), (2, 3), (0, 3), (3, 2), (3, 1)))
        flat, deep, middle = (0, 1, 2), (3, 4, 5), (6, 7, 8)
        self.assertEqual(deepest(Plan(net, (flat,), 1)), 1)
        self.assertEqual(deepest(Plan(net, (flat, middle), 1)), 2)
        self.assertEqual(deepest(Plan(net, (middle, flat), 1)), 2)
        self.assertEqual(deepest(Plan(net, (flat, deep, middle), 1)), 3)
        self.assertEqual(deepest(Plan(net, (deep, flat, middle), 3)), 3)

    def test_against_own_ways(self):
        for plan in plans():
            self.assertEqual(deepest(plan), max(depth_of_links(plan).values()))
            self.assertEqual(deepest(plan), max(len(way_apart(plan, tree, place))
                                                for tree in range(len(plan.by_trees))
                                                for place in range(plan.of_net.many)))

    def test_links_in_no_order(self):
        # Links that come later in the way have lesser numbers.
        plan = sized_plan(Net(4, 2, ((3, 0), (1, 3), (2, 1))), [(0, 1, 2)], 1)
        self.assertEqual(deepest(plan), 3)
        self.assertEqual(deepest(random_plan(random.Random(1), 2, 5)), 1)

    def test_no_plan(self):
        for thing in no_plans():
            self.assertRaises(NoPlan, deepest, thing)


if __name__ == "__main__":
    unittest.main()
