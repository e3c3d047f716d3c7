import itertools
import random
import unittest

from sparetrees.errors import NoLot, NoNet, NoPlace, NoTree, TooMany
from sparetrees.nets import Net, every_link, supply
from sparetrees.packing import packing
from sparetrees.trees import all_trees, depths, way_in
from tests.samples import (
    line_net, net_of_trees, nets_and_lots, odd_things, rich_nets, small_nets, subsets, tree_apart)


def fan_net():
    """Root 2; 2 -> 0, 0 -> 1, 1 -> 3, 2 -> 4, 3 -> 4, 4 -> 2, 2 -> 3."""
    return Net(5, 2, ((2, 0), (0, 1), (1, 3), (2, 4), (3, 4), (4, 2), (2, 3)))


class DepthsTest(unittest.TestCase):

    def test_ordinary_trees(self):
        net = fan_net()
        self.assertEqual(depths(net, (0, 1, 2, 3)), (1, 2, 0, 3, 1))
        self.assertEqual(depths(net, (0, 1, 2, 4)), (1, 2, 0, 3, 4))
        self.assertEqual(depths(net, (0, 1, 3, 6)), (1, 2, 0, 1, 1))
        self.assertEqual(depths(net, (0, 1, 4, 6)), (1, 2, 0, 1, 2))
        self.assertIs(depths(net, (0, 1, 2, 3)).__class__, tuple)
        self.assertEqual(depths(Net(2, 1, ((1, 0), (1, 0))), (1,)), (1, 0))

    def test_ways_of_ordinary_trees(self):
        net = fan_net()
        self.assertEqual([way_in(net, (0, 1, 2, 4), place) for place in range(5)],
                         [(0,), (0, 1), (), (0, 1, 2), (0, 1, 2, 4)])
        # The links stand in the order of the way, not in that of their numbers.
        net = Net(3, 0, ((1, 2), (0, 1)))
        self.assertEqual([way_in(net, (0, 1), place) for place in range(3)], [(), (1,), (1, 0)])

    def test_ways_and_depths_agree(self):
        nets = [net for net in rich_nets() if supply(net, every_link(net)) > 0]
        self.assertGreater(len(nets), 40)
        for net in nets:
            for tree in packing(net, min(12, supply(net, every_link(net)))):
                told = depths(net, tree)
                self.assertEqual(told[net.root], 0)
                for place in range(net.many):
                    way = way_in(net, tree, place)
                    self.assertIs(way.__class__, tuple)
                    self.assertTrue(set(way) <= set(tree))
                    self.assertEqual(len(way), told[place])
                    starts = [net.links[link][0] for link in way]
                    ends = [net.links[link][1] for link in way]
                    self.assertEqual([net.root] + ends, starts + [place])

    def test_no_tree(self):
        net = fan_net()
        bent = [(), (0, 1, 2), (0, 1, 2, 3, 4), (0, 1, 2, 5), (1, 2, 3, 4), (1, 0, 2, 3), [0, 1, 2, 3],
                (False, 1, 2, 3), (0, 1, 2, 7), ((0, 1, 2, 3),), net, None]
        for thing in bent + odd_things():
            self.assertRaises(NoTree, depths, net, thing)
            self.assertRaises(NoTree, way_in, net, thing, 0)
            self.assertRaises(NoTree, way_in, net, thing, "no place")

    def test_no_place(self):
        net = fan_net()
        for thing in odd_things() + [5, 6, -5, (0,), [0], net]:
            self.assertRaises(NoPlace, way_in, net, (0, 1, 2, 3), thing)
        self.assertEqual(way_in(net, (0, 1, 2, 3), 2), ())

    def test_no_net(self):
        for thing in odd_things() + [0, (), (3, 0, ())]:
            self.assertRaises(NoNet, depths, thing, "no tree")
            self.assertRaises(NoNet, way_in, thing, "no tree", "no place")
            self.assertRaises(NoNet, all_trees, thing, "no lot")


class AllTreesTest(unittest.TestCase):

    def going_through_choices(self, net, lot):
        rows = [[link for link in lot if net.links[link][1] == place]
                for place in range(net.many) if place != net.root]
        lots = [tuple(sorted(choice)) for choice in itertools.product(*rows)]
        return sorted(tree for tree in lots if tree_apart(net, tree))

    def choices(self, net, lot):
        count = 1
        for place in range(net.many):
            if place != net.root:
                count *= sum(1 for link in lot if net.links[link][1] == place)
        return count

    def test_against_all_choices(self):
        refused = 0
        for net, lot in nets_and_lots():
            if self.choices(net, lot) > 20000:
                refused += 1
                with self.assertRaises(TooMany) as caught:
                    all_trees(net, lot)
                self.assertEqual(caught.exception.most, 20000)
            else:
                found = all_trees(net, lot)
                self.assertIs(found.__class__, list)
                self.assertEqual(found, self.going_through_choices(net, lot))
        self.assertGreater(refused, 5)

    def test_against_all_lots(self):
        chance = random.Random(7)
        nets = small_nets(chance, 30, 5, 9)
        nets += [net_of_trees(chance, chance.randrange(2, 5), 2, chance.randrange(3)) for _ in range(30)]
        for net in nets:
            expected = sorted(lot for lot in subsets(range(len(net.links))) if tree_apart(net, lot))
            self.assertEqual(all_trees(net, every_link(net)), expected)

    def test_within_a_lot(self):
        net = fan_net()
        self.assertEqual(all_trees(net, every_link(net)),
                         [(0, 1, 2, 3), (0, 1, 2, 4), (0, 1, 3, 6), (0, 1, 4, 6)])
        self.assertEqual(all_trees(net, (0, 1, 2, 4, 5)), [(0, 1, 2, 4)])
        self.assertEqual(all_trees(net, (0, 1, 2)), [])
        self.assertEqual(all_trees(net, ()), [])
        # Each place has a link, but none is reached.
        self.assertEqual(all_trees(Net(3, 0, ((1, 2), (2, 1))), (0, 1)), [])

    def test_just_as_many_as_are_let(self):
        links = ((0, 1),) * 25 + ((1, 2),) * 20 + ((0, 3),) * 10 + ((2, 4),) * 4
        net = Net(5, 0, links)
        lot = every_link(net)
        found = all_trees(net, lot)
        self.assertEqual(len(found), 20000)
        self.assertEqual(found, sorted(set(found)))
        self.assertEqual((found[0], found[-1]), ((0, 25, 45, 55), (24, 44, 54, 58)))
        for more in ((0, 1), (1, 2), (2, 3), (3, 4)):
            net = Net(5, 0, links + (more,))
            with self.assertRaises(TooMany) as caught:
                all_trees(net, every_link(net))
            self.assertEqual(caught.exception.most, 20000)
        # What leads to the root is no choice.
        net = Net(5, 0, links + ((1, 0),))
        self.assertEqual(all_trees(net, every_link(net)), found)

    def test_about_as_many_as_are_let(self):
        net = Net(4, 0, ((0, 1),) * 27 + ((0, 2),) * 27 + ((0, 3),) * 6)
        self.assertEqual(len(all_trees(net, tuple(range(26)) + tuple(range(27, 60)))), 26 * 27 * 6)
        net = Net(5, 0, ((0, 1),) * 17 + ((0, 2),) * 14 + ((0, 3),) * 12 + ((0, 4),) * 7)
        self.assertEqual(17 * 14 * 12 * 7, 19992)
        self.assertEqual(len(all_trees(net, every_link(net))), 19992)
        net = Net(6, 0, ((0, 1),) * 11 + ((0, 2),) * 13 + ((0, 3),) * 10 + ((0, 4),) * 14 + ((0, 5),))
        self.assertEqual(11 * 13 * 10 * 14, 20020)
        self.assertRaises(TooMany, all_trees, net, every_link(net))

    def test_a_place_without_links(self):
        # The product is 0, however many links lead to the others.
        links = tuple((0, place) for place in range(1, 9) for _ in range(7))
        self.assertEqual(all_trees(Net(10, 0, links), tuple(range(56))), [])
        links = tuple((0, place) for place in range(2, 10) for _ in range(7))
        self.assertEqual(all_trees(Net(10, 0, links), tuple(range(56))), [])

    def test_wrong_lots(self):
        net = line_net()
        for thing in odd_things() + [[0, 1], 0, (1, 0), (0, 0), (8,), (-1,), (0, True), net]:
            self.assertRaises(NoLot, all_trees, net, thing)
        # NoLot comes ahead of TooMany.
        net = Net(2, 0, ((0, 1),) * 60)
        self.assertRaises(NoLot, all_trees, net, (60,))

    def test_lists_are_new(self):
        net = fan_net()
        first = all_trees(net, every_link(net))
        first.append("more")
        self.assertEqual(len(all_trees(net, every_link(net))), 4)


if __name__ == "__main__":
    unittest.main()
