import unittest

from sparetrees.desk import tale
from sparetrees.further import greatest_lack, lacking
from sparetrees.losses import hears, spent, told_at
from sparetrees.nets import Net, bar, entering, every_link, supply
from sparetrees.packing import packing, safe_links
from sparetrees.plans import Plan, deepest, plan_for
from sparetrees.prices import can_part, cheapest, closed_by
from sparetrees.rates import are_loads, rate
from sparetrees.roots import continued
from sparetrees.stops import greatest_spare, stopped, stops
from sparetrees.streams import Stream
from sparetrees.ties import Web, crossing, is_crossed, led_from, strength
from sparetrees.trees import all_trees, depths
from sparetrees.turning import least_rest
from sparetrees.ways import farthest_side, nearest_side
from sparetrees.words import mended, spread, told, wrong_words


class ExamplesTest(unittest.TestCase):

    def setUp(self):
        self.n = Net(3, 0, ((0, 1), (0, 2), (1, 2), (2, 1)))
        self.a = every_link(self.n)
        self.w = Web(3, ((0, 1), (0, 1), (0, 2), (1, 2), (1, 2), (0, 2)))

    def test_e01(self):
        n, a = self.n, self.a
        found = (supply(n, a), entering(n, a, (1, 2)), bar(n, (0, 1, 2), 2), nearest_side(n, a, 1),
                 farthest_side(n, a, 1))
        self.assertEqual(found, (2, (0, 1), (1,), (1,), (1, 2)))

    def test_e02(self):
        n, a = self.n, self.a
        found = (sorted(packing(n, 2)), safe_links(n, a, 2, ()), all_trees(n, a), depths(n, (0, 2)))
        self.assertEqual(found, ([(0, 2), (1, 3)], (0, 1), [(0, 1), (0, 2), (1, 3)], (0, 1, 2)))

    def test_e03(self):
        self.assertEqual(continued(self.n, ((0,), ())), ((0, 2), (1, 3)))

    def test_e04(self):
        n = self.n
        found = (rate(n, (2, 1, 1, 1)), are_loads(n, (2, 1, 1, 1), 2, ((1, (0, 1)), (1, (0, 2)))))
        self.assertEqual(found, (2, True))

    def test_e05(self):
        w = self.w
        found = (strength(w), crossing(w, ((0,), (1, 2))), led_from(w, ((0, 2),), 1),
                 is_crossed(w, 4, ((0,), (1,), (2,))))
        self.assertEqual(found, (3, (0, 1, 2, 5), ((1, 4),), True))

    def test_e06(self):
        n, w = self.n, self.w
        found = (lacking(n, 3), greatest_lack(n, 3), cheapest(w, (5, 1, 2, 2, 9, 4), 1),
                 closed_by(w, 1, (1, 2), 3), can_part(w, 2, (0, 1, 2, 3)))
        self.assertEqual(found, (2, ((1,), (2,)), (1, 2), (1, 2, 3), True))

    def test_e07(self):
        p = plan_for(Net(2, 0, ((0, 1), (0, 1), (0, 1))), 2, 1)
        found = (spread(5, (2, 3), 3), told(5, 2, {0: 2, 2: 3}), mended(5, 1, {0: 4, 1: 4, 2: 3}),
                 wrong_words(5, 1, {0: 4, 1: 4, 2: 3}), deepest(p), stopped(p, (0,)), stopped(p, (0, 2)),
                 greatest_spare(p.of_net, 2))
        self.assertEqual(found, ((2, 0, 3), (2, 3), (4,), (2,), 1, (), (1,), 1))

    def test_e08(self):
        n = Net(3, 0, ((0, 1), (1, 2), (0, 2), (2, 1)))
        a = Plan(n, ((0, 1), (2, 3)), 1)
        found = (told_at(a, (), 4), told_at(a, ((0,), (3,)), 0), hears(a, ((0,), ()), 0), spent(n, ((0,), (3,)), 2),
                 stops(a, 1))
        self.assertEqual(found, ((4, 5, 5), (0, None, 1), (((0, 0), (0, 1)), ((2, 1),), ((1, 1),)), 2,
                                 [(0, 2), (0, 3)]))

    def test_e09(self):
        n = Net(3, 0, ((0, 1), (1, 2), (0, 2), (2, 1)))
        a = Plan(n, ((0, 1),), 1)
        b = Plan(n, ((0, 2),), 1)
        s = Stream(a, 5, ((3,), (4,)))
        found = (least_rest(a, b), s.beat(()), s.beat((1,)), s.row(1), s.row(2), s.under_way())
        self.assertEqual(found, (0, (((0, 0, 3),), ((0, 0, 3),), ()), (((1, 0, 4),), ((1, 0, 4),), ()),
                                 ((3,), (4,)), (), 1))

    def test_e10(self):
        lines = ["link 0 1", "begin", "link 0 1", "begin", "beat 3 0", "row 1", "harm", "row 2"]
        self.assertEqual(tale(2, 0, 1, 1, 5, lines), ["0", "barred 1", "1", "ok", "0", "3", "1 | 0 1", "(NoPlace)"])


if __name__ == "__main__":
    unittest.main()
