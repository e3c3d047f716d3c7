import unittest

from sparetrees.nets import Net, bar, entering, every_link, supply
from sparetrees.packing import packing, safe_links
from sparetrees.rates import are_loads, rate
from sparetrees.roots import continued
from sparetrees.trees import all_trees, depths
from sparetrees.ways import farthest_side, nearest_side


class ExamplesTest(unittest.TestCase):

    def setUp(self):
        self.n = Net(3, 0, ((0, 1), (0, 2), (1, 2), (2, 1)))
        self.a = every_link(self.n)

    def test_e01(self):
        n, a = self.n, self.a
        told = (supply(n, a), entering(n, a, (1, 2)), bar(n, (0, 1, 2), 2), nearest_side(n, a, 1),
                farthest_side(n, a, 1))
        self.assertEqual(told, (2, (0, 1), (1,), (1,), (1, 2)))

    def test_e02(self):
        n, a = self.n, self.a
        told = (sorted(packing(n, 2)), safe_links(n, a, 2, ()), all_trees(n, a), depths(n, (0, 2)))
        self.assertEqual(told, ([(0, 2), (1, 3)], (0, 1), [(0, 1), (0, 2), (1, 3)], (0, 1, 2)))

    def test_e03(self):
        self.assertEqual(continued(self.n, ((0,), ())), ((0, 2), (1, 3)))

    def test_e04(self):
        n = self.n
        told = (rate(n, (2, 1, 1, 1)), are_loads(n, (2, 1, 1, 1), 2, ((1, (0, 1)), (1, (0, 2)))))
        self.assertEqual(told, (2, True))


if __name__ == "__main__":
    unittest.main()
