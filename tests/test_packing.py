import random
import unittest

from sparetrees.errors import Barred, NoGrown, NoLot, NoNet, NoNumber
from sparetrees.nets import Net, bar, every_link, supply
from sparetrees.packing import heard_by, is_grown, is_packing, is_tree, packing, packing_within, safe_links
from tests.samples import (
    count_of, enters, going_through, grows_apart, line_net, net_of_trees, nets_and_lots, no_link_twice,
    odd_things, rich_nets, small_nets, subsets, tree_apart)

NO_COUNTS = (13, 14, 60, -1, True, False, None, "1", (1,), [1], 10 ** 59, -(10 ** 59), Net(2, 0, ()))


def ring_net():
    """Root 0; 0 -> 1, 1 -> 2, 2 -> 1, 0 -> 2, 2 -> 3, 3 -> 0, 1 -> 3, 0 -> 1."""
    return Net(4, 0, ((0, 1), (1, 2), (2, 1), (0, 2), (2, 3), (3, 0), (1, 3), (0, 1)))


class IsTreeTest(unittest.TestCase):

    def test_told_ones(self):
        net = ring_net()
        for tree in ((0, 1, 4), (0, 1, 6), (0, 3, 4), (0, 3, 6), (2, 3, 4), (2, 3, 6), (1, 4, 7), (3, 6, 7)):
            self.assertIs(is_tree(net, tree), True)
        self.assertIs(is_tree(Net(2, 1, ((0, 1), (1, 0))), (1,)), True)
        self.assertIs(is_tree(Net(2, 1, ((0, 1), (1, 0))), (0,)), False)

    def test_bent_ones(self):
        net = ring_net()
        bent = [
            (), (0,), (0, 1), (1, 4), (0, 1, 4, 5), (0, 1, 2, 4), (0, 1, 4, 6), (0, 1, 4, 7), (0, 4, 7),
            # A ring away from the root: 1 -> 2, 2 -> 1, and 3 by it.
            (1, 2, 4), (1, 2, 6),
            # One that leads to the root in the place of one that is lacking.
            (0, 1, 5), (0, 3, 5),
            # Not ascending, twice, a list, flags, numbers beyond.
            (1, 0, 4), (0, 4, 1), (0, 0, 1), (0, 1, 1, 4), [0, 1, 4], (False, True, 4), (0, True, 4),
            (0, 1, 8), (-8, 1, 4), (0, 1, 10 ** 59), ("0", 1, 4), ((0,), 1, 4), (0, 1, None), (0, 1, (4,)),
            {0: 0, 1: 1, 4: 4}, "014", range(3), ((0, 1, 4),), net, None, 0,
        ]
        for thing in bent:
            self.assertIs(is_tree(net, thing), False, thing)

    def test_all_lots_of_small_nets(self):
        chance = random.Random(1)
        for net in small_nets(chance, 40, 5, 8) + [ring_net()]:
            for lot in subsets(range(len(net.links))):
                self.assertIs(is_tree(net, lot), tree_apart(net, lot))
                self.assertIs(is_grown(net, lot), grows_apart(net, (net.root,), lot))

    def test_any_thing(self):
        net = Net(2, 0, ((1, 0), (0, 1), (0, 1)))
        self.assertIs(is_tree(net, (1,)), True)
        for thing in odd_things():
            self.assertIs(is_tree(net, thing), False)
            self.assertIs(is_tree(net, (thing,)), False)
            self.assertIs(is_tree(net, (1, thing)), False)


class IsPackingTest(unittest.TestCase):

    def test_told_ones(self):
        net = ring_net()
        for trees in ((), ((0, 1, 4),), ((0, 1, 4), (3, 6, 7)), ((3, 6, 7), (0, 1, 4)), ((2, 3, 6), (1, 4, 7))):
            self.assertIs(is_packing(net, trees), True)

    def test_bent_ones(self):
        net = ring_net()
        bent = [
            [], [(0, 1, 4)], ([0, 1, 4],), (0, 1, 4), ((0, 1, 4), (0, 3, 6)), ((0, 1, 4), (0, 1, 4)),
            ((0, 1, 4), (1, 6, 7)), ((0, 1, 4), (3, 7)), ((0, 1, 4), ()), ((),), ((0, 1, 4), [3, 6, 7]),
            ((0, 1, 4), (3, 7, 6)), ((0, 1, 4), (3, 5, 7)), ((0, 1, 4), (3, 6, 7), ()), ((0, 1, 4), None),
            ((0, 1, 4), (3, 6, 7), (0, 1, 4)), (((0, 1, 4), (3, 6, 7)),), {(0, 1, 4): (3, 6, 7)}, {},
            "", None, 0, True, net, (net,), ((0, 1, 4), net), ((False, 1, 4),),
        ]
        for thing in bent:
            self.assertIs(is_packing(net, thing), False, thing)

    def test_any_thing(self):
        net = Net(2, 0, ((1, 0), (0, 1), (0, 1)))
        self.assertIs(is_packing(net, ((2,), (1,))), True)
        for thing in odd_things():
            self.assertIs(is_packing(net, thing), False)
            self.assertIs(is_packing(net, (thing,)), False)
            self.assertIs(is_packing(net, ((1,), thing)), False)
            self.assertIs(is_packing(net, ((1,), (thing,))), False)
        self.assertIs(is_packing(net, ((1,),) * 20000), False)

    def test_bent_packings(self):
        for net in rich_nets()[::3]:
            trees = packing(net, min(12, supply(net, every_link(net))))
            for at, tree in enumerate(trees):
                rest = trees[:at] + trees[at + 1:]
                self.assertIs(is_packing(net, rest), True)
                self.assertIs(is_packing(net, trees + (tree,)), False)
                self.assertIs(is_packing(net, rest + (tree[1:],)), False)
                for link in range(len(net.links)):
                    told = tuple(sorted(tree[1:] + (link,)))
                    ascending = len(set(told)) == len(told)
                    right = ascending and tree_apart(net, told) and no_link_twice(rest + (told,))
                    self.assertIs(is_packing(net, rest + (told,)), right)
                    if link not in tree:
                        self.assertIs(is_packing(net, rest + (tuple(sorted(tree + (link,))),)), False)


class IsGrownTest(unittest.TestCase):

    def test_told_ones(self):
        net = ring_net()
        for grown, heard in (((), (0,)), ((0,), (0, 1)), ((7,), (0, 1)), ((3,), (0, 2)), ((0, 3), (0, 1, 2)),
                             ((0, 1), (0, 1, 2)), ((2, 3), (0, 1, 2)), ((0, 6), (0, 1, 3)),
                             ((0, 1, 4), (0, 1, 2, 3)), ((3, 4), (0, 2, 3))):
            self.assertIs(is_grown(net, grown), True)
            self.assertEqual(heard_by(net, grown), heard)
            self.assertIs(heard_by(net, grown).__class__, tuple)

    def test_the_root_is_among_the_heard(self):
        net = Net(3, 1, ((1, 0), (0, 2), (2, 1)))
        self.assertEqual(heard_by(net, ()), (1,))
        self.assertEqual(heard_by(net, (0,)), (0, 1))
        self.assertEqual(heard_by(net, (0, 1)), (0, 1, 2))
        self.assertRaises(NoGrown, heard_by, net, (0, 1, 2))

    def test_heard_by_all_grown_parts(self):
        chance = random.Random(2)
        for net in small_nets(chance, 30, 5, 7):
            for lot in subsets(range(len(net.links))):
                if grows_apart(net, (net.root,), lot):
                    ends = {net.links[link][1] for link in lot}
                    self.assertEqual(heard_by(net, lot), tuple(sorted(ends | {net.root})))
                else:
                    self.assertRaises(NoGrown, heard_by, net, lot)

    def test_bent_ones(self):
        net = ring_net()
        bent = [
            (1,), (2,), (4,), (5,), (1, 2), (0, 7), (0, 2), (1, 3), (0, 5), (0, 4), (1, 0), (0, 0), (0, 1, 2),
            (0, 1, 4, 5), (0, 1, 4, 6), [], [0], (False,), (0, True), (8,), (-8,), (10 ** 59,), ("0",), ((0,),),
            ((),), {}, {0: 1}, "", None, 0, range(1), net, (net,),
        ]
        for thing in bent:
            self.assertIs(is_grown(net, thing), False, thing)
            self.assertRaises(NoGrown, heard_by, net, thing)

    def test_any_thing(self):
        net = Net(2, 0, ((1, 0), (0, 1)))
        for thing in odd_things():
            self.assertIs(is_grown(net, thing), False)
            self.assertIs(is_grown(net, (thing,)), False)
            self.assertRaises(NoGrown, heard_by, net, thing)
            self.assertRaises(NoGrown, heard_by, net, (1, thing))


class PackingTest(unittest.TestCase):

    def judge(self, net, lot, many, trees):
        self.assertIs(trees.__class__, tuple)
        self.assertEqual(len(trees), many)
        for tree in trees:
            self.assertIs(tree.__class__, tuple)
            self.assertEqual(list(tree), sorted(set(tree)))
            self.assertTrue(set(tree) <= set(lot))
            self.assertTrue(tree_apart(net, tree))
        self.assertTrue(no_link_twice(trees))
        self.assertIs(is_packing(net, trees), True)

    def test_as_many_as_the_links_let(self):
        greatest = 0
        for net in rich_nets():
            most = min(12, min(count_of(net, every_link(net), side) for side in going_through(net)))
            greatest = max(greatest, most)
            for many in {0, 1, most // 2, most}:
                if many <= most:
                    self.judge(net, every_link(net), many, packing(net, many))
        self.assertEqual(greatest, 12)

    def test_one_more(self):
        for net in rich_nets():
            few = [side for side in going_through(net)]
            most = min(count_of(net, every_link(net), side) for side in few)
            for many in {most + 1, 12}:
                if most < many <= 12:
                    first = [side for side in few if count_of(net, every_link(net), side) < many][0]
                    with self.assertRaises(Barred) as caught:
                        packing(net, many)
                    self.assertEqual(caught.exception.side, first)
                    self.assertEqual(caught.exception.side, bar(net, every_link(net), many))

    def test_within_a_lot(self):
        barred = 0
        for net, lot in nets_and_lots():
            least = supply(net, lot)
            for many in range(min(12, least) + 1):
                self.judge(net, lot, many, packing_within(net, lot, many))
            if least < 12:
                barred += 1
                with self.assertRaises(Barred) as caught:
                    packing_within(net, lot, least + 1)
                self.assertEqual(caught.exception.side, bar(net, lot, least + 1))
        self.assertGreater(barred, 50)

    def test_within_half_of_the_links(self):
        chance = random.Random(3)
        for net in rich_nets():
            lot = tuple(link for link in every_link(net) if chance.randrange(4))
            least = min(12, supply(net, lot))
            self.judge(net, lot, least, packing_within(net, lot, least))

    def test_the_first_side_is_told(self):
        net = Net(4, 1, ((1, 0), (1, 0), (0, 2), (0, 2), (2, 3)))
        with self.assertRaises(Barred) as caught:
            packing(net, 2)
        self.assertEqual(caught.exception.side, (3,))
        net = Net(4, 1, ((1, 2), (1, 0), (1, 0), (2, 3), (2, 3), (3, 2)))
        with self.assertRaises(Barred) as caught:
            packing(net, 2)
        self.assertEqual(caught.exception.side, (2, 3))
        with self.assertRaises(Barred) as caught:
            packing_within(net, (1, 2, 3, 4, 5), 1)
        self.assertEqual(caught.exception.side, (2, 3))
        with self.assertRaises(Barred) as caught:
            packing_within(net, (), 12)
        self.assertEqual(caught.exception.side, (0,))

    def test_none_and_twelve(self):
        self.assertEqual(packing(Net(3, 0, ()), 0), ())
        self.assertEqual(packing_within(Net(3, 0, ((0, 1), (0, 2))), (), 0), ())
        net = Net(2, 1, ((1, 0),) * 60)
        self.judge(net, every_link(net), 12, packing(net, 12))
        self.assertEqual(packing_within(net, (59,), 1), ((59,),))
        self.judge(net, tuple(range(48, 60)), 12, packing_within(net, tuple(range(48, 60)), 12))
        self.assertRaises(Barred, packing_within, net, tuple(range(49, 60)), 12)

    def test_equal_calls_give_equal_answers(self):
        for net in rich_nets()[:20]:
            many = min(12, supply(net, every_link(net)))
            self.assertEqual(packing(net, many), packing(Net(net.many, net.root, net.links), many))


class SafeLinksTest(unittest.TestCase):

    def expected(self, net, lot, many, grown):
        heard = {net.root} | {net.links[link][1] for link in grown}
        safe = []
        for link in lot:
            start, end = net.links[link]
            rest = [other for other in lot if other != link and other not in grown]
            if start in heard and end not in heard:
                if all(count_of(net, rest, side) >= many - 1 for side in going_through(net)):
                    safe.append(link)
        return tuple(safe)

    def test_a_look_at_all_sides(self):
        chance = random.Random(4)
        found = 0
        nets = small_nets(chance, 20, 4, 7)
        nets += [net_of_trees(chance, chance.randrange(2, 5), 2, chance.randrange(3)) for _ in range(20)]
        for net in nets:
            for lot in subsets(range(len(net.links)))[::-3]:
                for grown in subsets(lot):
                    if grows_apart(net, (net.root,), grown):
                        for many in (1, 2, 3):
                            expected = self.expected(net, lot, many, grown)
                            found += len(expected) > 0 and many > 1
                            self.assertEqual(safe_links(net, lot, many, grown), expected)
        self.assertGreater(found, 100)

    def grow(self, chance, net, lot, many):
        """A tree that is grown by safe links, any of which is taken."""
        grown = ()
        while len(grown) < net.many - 1:
            safe = safe_links(net, lot, many, grown)
            self.assertEqual(safe, self.expected(net, lot, many, grown))
            self.assertGreater(len(safe), 0)
            grown = tuple(sorted(grown + (chance.choice(safe),)))
            self.assertIs(is_grown(net, grown), True)
        self.assertEqual(safe_links(net, lot, many, grown), ())
        return grown

    def test_a_tree_comes_and_the_rest_lets_one_less(self):
        chance = random.Random(5)
        for _ in range(12):
            places, trees = chance.randrange(2, 7), chance.randrange(1, 5)
            net = net_of_trees(chance, places, trees, chance.randrange(4))
            rest = every_link(net)
            for many in range(trees, 0, -1):
                tree = self.grow(chance, net, rest, many)
                self.assertTrue(tree_apart(net, tree))
                rest = tuple(link for link in rest if link not in tree)
                self.assertGreaterEqual(supply(net, rest), many - 1)

    def test_great_nets(self):
        chance = random.Random(6)
        net = net_of_trees(chance, 10, 6, 6)
        self.grow(chance, net, every_link(net), 6)
        net = net_of_trees(chance, 5, 12, 12)
        self.grow(chance, net, every_link(net), 12)

    def test_whatever_else_holds(self):
        net = ring_net()
        # With too few links entering there is none; for 1 the rest needs nothing.
        self.assertEqual(safe_links(net, every_link(net), 12, ()), ())
        self.assertEqual(safe_links(net, every_link(net), 1, ()), (0, 3, 7))
        self.assertEqual(safe_links(net, (0, 4), 1, ()), (0,))
        self.assertEqual(safe_links(net, (0, 4), 2, ()), ())
        self.assertEqual(safe_links(net, (), 1, ()), ())
        self.assertEqual(safe_links(Net(2, 0, ((0, 1),) * 3), (0, 2), 2, ()), (0, 2))
        self.assertEqual(safe_links(Net(2, 0, ((0, 1),) * 3), (0, 2), 3, ()), ())
        self.assertEqual(safe_links(Net(2, 0, ((0, 1),) * 13), tuple(range(12)), 12, ()), tuple(range(12)))

    def test_e02(self):
        net = Net(3, 0, ((0, 1), (0, 2), (1, 2), (2, 1)))
        self.assertEqual(safe_links(net, every_link(net), 2, ()), (0, 1))
        # By 1 -> 2 the tree goes on; by 0 -> 2 nothing would come in to both any more.
        self.assertEqual(safe_links(net, every_link(net), 2, (0,)), (2,))
        self.assertFalse(enters(net, 2, (1, 2)))


class WrongArgumentsTest(unittest.TestCase):

    def test_no_net(self):
        for thing in odd_things() + [0, (), (3, 0, ())]:
            self.assertRaises(NoNet, is_tree, thing, ())
            self.assertRaises(NoNet, is_packing, thing, ())
            self.assertRaises(NoNet, is_grown, thing, ())
            self.assertRaises(NoNet, heard_by, thing, "no grown part")
            self.assertRaises(NoNet, packing, thing, "no number")
            self.assertRaises(NoNet, packing_within, thing, "no lot", "no number")
            self.assertRaises(NoNet, safe_links, thing, "no lot", "no number", "no grown part")

    def test_no_lot(self):
        net = line_net()
        for thing in odd_things() + [[0, 1], 0, (1, 0), (0, 0), (8,), (7, 8), (-1,), (0, True), net]:
            self.assertRaises(NoLot, packing_within, net, thing, "no number")
            self.assertRaises(NoLot, safe_links, net, thing, "no number", "no grown part")

    def test_no_number(self):
        net = line_net()
        for thing in list(NO_COUNTS) + odd_things():
            self.assertRaises(NoNumber, packing, net, thing)
            self.assertRaises(NoNumber, packing_within, net, (0, 1), thing)
            self.assertRaises(NoNumber, safe_links, net, (0, 1), thing, "no grown part")
        self.assertRaises(NoNumber, safe_links, net, (), 0, ())
        self.assertRaises(NoNumber, safe_links, net, (), 13, ())
        for many in range(1, 13):
            self.assertEqual(safe_links(Net(2, 0, ()), (), many, ()), ())
            self.assertRaises(Barred, packing, net, max(2, many))
        self.assertEqual(packing(net, 0), ())

    def test_no_grown_part(self):
        net = line_net()
        for thing in odd_things() + [(2,), (0, 1), (5,), [0], (0, True), 0, net, (8,), ((0,),)]:
            self.assertRaises(NoGrown, safe_links, net, every_link(net), 1, thing)
            self.assertRaises(NoGrown, safe_links, net, every_link(net), 12, thing)

    def test_grown_beyond_the_lot(self):
        net = line_net()
        self.assertEqual(safe_links(net, (0, 1, 2), 1, (0,)), (2,))
        self.assertRaises(NoGrown, safe_links, net, (1, 2), 1, (0,))
        self.assertRaises(NoGrown, safe_links, net, (0, 1), 1, (0, 2))
        self.assertRaises(NoGrown, safe_links, net, (), 12, (1,))

    def test_nothing_is_changed(self):
        net = line_net()
        packing(net, 1)
        safe_links(net, every_link(net), 1, ())
        self.assertEqual(net, line_net())


if __name__ == "__main__":
    unittest.main()
