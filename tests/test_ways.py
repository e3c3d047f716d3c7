import unittest

from sparetrees.errors import NoLot, NoNet, NoPlace
from sparetrees.nets import Net, every_link
from sparetrees.ways import are_ways, farthest_side, nearest_side, ways
from tests.samples import count_of, going_through, line_net, nets_and_lots, odd_things


def others(net):
    return [place for place in range(net.many) if place != net.root]


def least_sides(net, lot, place):
    sides = [side for side in going_through(net) if place in side]
    least = min(count_of(net, lot, side) for side in sides)
    return least, [side for side in sides if count_of(net, lot, side) == least]


def judged(net, lot, place, told):
    """Whether what is told are ways, judged apart from the package."""
    links = [link for way in told for link in way]
    if len(set(links)) != len(links) or not set(links) <= set(lot):
        return False
    for way in told:
        starts = [net.links[link][0] for link in way]
        ends = [net.links[link][1] for link in way]
        if [net.root] + ends != starts + [place] or len(set([net.root] + ends)) != len(ends) + 1:
            return False
    return True


class WaysTest(unittest.TestCase):

    def test_as_many_as_links_enter(self):
        for net, lot in nets_and_lots():
            for place in others(net):
                found = ways(net, lot, place)
                self.assertIs(found.__class__, tuple)
                for way in found:
                    self.assertIs(way.__class__, tuple)
                self.assertEqual(len(found), least_sides(net, lot, place)[0])
                self.assertTrue(judged(net, lot, place, found))
                self.assertIs(are_ways(net, lot, place, found), True)
                self.assertEqual(found, ways(net, lot, place))

    def test_no_way(self):
        self.assertEqual(ways(Net(3, 0, ((0, 1), (2, 1))), (0, 1), 2), ())
        self.assertEqual(ways(Net(3, 0, ((0, 1), (1, 2))), (1,), 2), ())
        self.assertEqual(ways(Net(2, 0, ()), (), 1), ())

    def test_all_links_of_a_bundle(self):
        net = Net(2, 1, ((1, 0),) * 60)
        self.assertEqual(sorted(ways(net, every_link(net), 0)), [(link,) for link in range(60)])

    def test_a_way_has_to_be_led_back(self):
        # The shortest way, by 1 and 4, bars both others, which are there together.
        net = Net(6, 0, ((0, 1), (1, 4), (4, 5), (0, 2), (2, 4), (1, 3), (3, 5)))
        self.assertEqual(sorted(ways(net, every_link(net), 5)), [(0, 5, 6), (3, 4, 2)])

    def test_rings_are_left_out(self):
        # As many links as can be, among links that go back to the root, from the place and round.
        links = ((0, 1), (1, 0), (1, 2), (2, 1), (2, 3), (3, 2), (3, 1), (1, 3), (0, 2), (2, 0), (3, 0))
        net = Net(4, 0, links)
        for place in (1, 2, 3):
            found = ways(net, every_link(net), place)
            self.assertTrue(judged(net, every_link(net), place, found))
            self.assertEqual(len(found), 2)

    def test_a_ring_among_the_used_links_is_left_out(self):
        # Behind the second way links 10 and 4, from 4 to 8 and back, are used, though no way needs them.
        links = ((9, 0), (8, 2), (9, 1), (0, 4), (8, 4), (3, 7), (0, 9), (4, 5), (2, 6), (7, 6), (4, 8),
                 (0, 9), (0, 5), (6, 3), (4, 8), (0, 5), (1, 2), (4, 3))
        net = Net(10, 0, links)
        found = ways(net, every_link(net), 6)
        self.assertTrue(judged(net, every_link(net), 6, found))
        self.assertEqual(len(found), 2)

    def test_are_ways(self):
        net = line_net()
        lot = every_link(net)
        for told in ((), ((0, 2),), ((1, 3),), ((0, 2), (1, 3)), ((1, 2), (0, 3)), ((1, 3), (0, 2))):
            self.assertIs(are_ways(net, lot, 2, told), True)
        for told in ([], [(0, 2)], ([0, 2],), ((0, 2), [1, 3]), (0, 2), ((),), ((0, 2), ()),
                     ((0,),), ((2,),), ((2, 0),), ((0, 2, 4),), ((0, 2), (0, 3)), ((0, 2), (1, 2)),
                     ((0, 2), (0, 2)), ((0, 0, 2),), ((0, 2, 2),), ((0, 2, 6, 3),), ((0, 2, 4, 7, 3),),
                     ((0, 2, 4, 5, 1, 3),), ((0, 8),), ((-8, 2),), ((0, -6),), ((0, 2), (1, 30)),
                     ((0, True),), ((False, 2),), ((0, 2.0),), ((0, "2"),), ((0, None),), ((0, (2,)),),
                     ((0, [2]),), (((0, 2),),), ((0, 2), None), ((0, 2), 1), ("02",), "02", None, 0, net,
                     ((0, 2), net), {(0, 2): 0}, range(2)):
            self.assertIs(are_ways(net, lot, 2, told), False)

    def test_are_ways_of_the_lot_alone(self):
        net = line_net()
        self.assertIs(are_ways(net, (0, 2), 2, ((0, 2),)), True)
        self.assertIs(are_ways(net, (0, 3), 2, ((0, 2),)), False)
        self.assertIs(are_ways(net, (), 2, ()), True)

    def test_are_ways_to_the_place_alone(self):
        net = line_net()
        self.assertIs(are_ways(net, every_link(net), 1, ((0,), (1,))), True)
        self.assertIs(are_ways(net, every_link(net), 2, ((0,), (1,))), False)
        self.assertIs(are_ways(net, every_link(net), 1, ((0, 2),)), False)
        self.assertIs(are_ways(net, every_link(net), 3, ((0, 2, 4),)), True)
        # A way may not come to its own place ahead of its end, nor to the root.
        self.assertIs(are_ways(net, every_link(net), 1, ((0, 2, 6),)), False)
        self.assertIs(are_ways(net, every_link(net), 1, ((0, 2, 4, 5, 1),)), False)
        net = Net(3, 0, ((0, 1), (1, 0), (0, 2)))
        self.assertIs(are_ways(net, every_link(net), 2, ((2,),)), True)
        self.assertIs(are_ways(net, every_link(net), 2, ((0, 1, 2),)), False)

    def test_are_ways_of_bent_ones(self):
        for net, lot in nets_and_lots():
            for place in others(net)[:3]:
                found = ways(net, lot, place)
                for number, way in enumerate(found[:2]):
                    rest = found[:number] + found[number + 1:]
                    bent = [way[1:], way[:-1], way + way[-1:], way[:1] + way, way[::-1] + way[:1]]
                    for other in bent + [way[:k] + way[k + 1:] for k in range(len(way))]:
                        told = rest + (other,)
                        self.assertIs(are_ways(net, lot, place, told), judged(net, lot, place, told))
                    self.assertIs(are_ways(net, lot, place, rest + (way + (len(net.links),),)), False)
                    self.assertIs(are_ways(net, lot, place, found + (way,)), False)
                    self.assertIs(are_ways(net, lot, place, rest), True)
                    self.assertIs(are_ways(net, lot, place, list(found)), False)
                    self.assertIs(are_ways(net, lot, place, rest + (list(way),)), False)

    def test_are_ways_of_any_thing(self):
        net = Net(2, 0, ((1, 0), (0, 1)))
        self.assertIs(are_ways(net, (0, 1), 1, ((1,),)), True)
        for thing in odd_things():
            self.assertIs(are_ways(net, (0, 1), 1, thing), False)
            self.assertIs(are_ways(net, (0, 1), 1, (thing,)), False)
            self.assertIs(are_ways(net, (0, 1), 1, ((1,), thing)), False)
            self.assertIs(are_ways(net, (0, 1), 1, ((thing,),)), False)
            self.assertIs(are_ways(net, (0, 1), 1, ((1, thing),)), False)

    def test_nearest_and_farthest_side(self):
        for net, lot in nets_and_lots():
            for place in others(net):
                _, sides = least_sides(net, lot, place)
                nearest = nearest_side(net, lot, place)
                farthest = farthest_side(net, lot, place)
                self.assertIn(nearest, sides)
                self.assertIn(farthest, sides)
                for side in sides:
                    self.assertLessEqual(set(nearest), set(side))
                    self.assertLessEqual(set(side), set(farthest))

    def test_sides_of_told_nets(self):
        net = line_net()
        lot = every_link(net)
        self.assertEqual([nearest_side(net, lot, place) for place in (1, 2, 3)], [(1, 2, 3), (2,), (3,)])
        self.assertEqual([farthest_side(net, lot, place) for place in (1, 2, 3)], [(1, 2, 3), (1, 2, 3), (3,)])
        self.assertEqual((nearest_side(net, (), 2), farthest_side(net, (), 2)), ((2,), (1, 2, 3)))


class WrongArgumentsTest(unittest.TestCase):

    def calls(self, net, lot, place):
        return [
            lambda: ways(net, lot, place), lambda: are_ways(net, lot, place, ()),
            lambda: are_ways(net, lot, place, "no ways"), lambda: nearest_side(net, lot, place),
            lambda: farthest_side(net, lot, place),
        ]

    def test_no_net(self):
        for thing in odd_things() + [0, 1, ()]:
            for call in self.calls(thing, "no lot", "no place"):
                self.assertRaises(NoNet, call)

    def test_no_lot(self):
        net = Net(2, 0, ((0, 1),))
        for thing in odd_things() + [0, (1,), (0, 1), net]:
            for call in self.calls(net, thing, "no place"):
                self.assertRaises(NoLot, call)

    def test_no_place(self):
        for root in range(3):
            net = Net(3, root, ((0, 1), (1, 2), (2, 0)))
            for thing in odd_things() + [root, 3, -1, -2, 10, 11, True, False, (1,), [1], (), net]:
                for call in self.calls(net, (0,), thing):
                    self.assertRaises(NoPlace, call)


if __name__ == "__main__":
    unittest.main()
