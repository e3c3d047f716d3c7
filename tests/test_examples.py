import unittest

from sparetrees.nets import Net, bar, entering, every_link, supply
from sparetrees.ways import farthest_side, nearest_side


class ExamplesTest(unittest.TestCase):

    def test_e01(self):
        n = Net(3, 0, ((0, 1), (0, 2), (1, 2), (2, 1)))
        a = every_link(n)
        told = (supply(n, a), entering(n, a, (1, 2)), bar(n, (0, 1, 2), 2), nearest_side(n, a, 1),
                farthest_side(n, a, 1))
        self.assertEqual(told, (2, (0, 1), (1,), (1,), (1, 2)))


if __name__ == "__main__":
    unittest.main()
