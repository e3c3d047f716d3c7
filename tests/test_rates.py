import random
import unittest

from sparetrees.errors import Barred, NoNet, NoNumber, NoWidths
from sparetrees.nets import Net
from sparetrees.rates import are_loads, loads, rate
from tests.samples import (
    enters, going_through, line_net, net_of_trees, nets_and_lots, odd_things, rich_nets, subsets, tree_apart)

NO_TIMES = (41, 42, 60, -1, True, False, None, "1", (1,), [1], 10 ** 59, -(10 ** 59), Net(2, 0, ()))


def sum_of(net, widths, side):
    return sum(width for link, width in enumerate(widths) if enters(net, link, side))


def rate_apart(net, widths):
    return min(sum_of(net, widths, side) for side in going_through(net))


def judged(net, widths, many, told):
    """Whether what is told, a tuple of pairs of an integer and a lot of links, are loads."""
    trees = [tree for _, tree in told]
    if any(times < 1 for times, _ in told) or sum(times for times, _ in told) != many:
        return False
    if any(trees[at] >= trees[at + 1] for at in range(len(trees) - 1)):
        return False
    if not all(tree_apart(net, tree) for tree in trees):
        return False
    return all(sum(times for times, tree in told if link in tree) <= width for link, width in enumerate(widths))


def nets_and_widths():
    chance = random.Random(15)
    pairs = []
    for net in rich_nets() + [net for net, _ in nets_and_lots()[:60]]:
        for most in (1, 3, 20):
            pairs.append((net, tuple(chance.randrange(most + 1) for _ in net.links)))
        pairs.append((net, tuple(chance.choice([0, 20, 20]) for _ in net.links)))
    return pairs


class RateTest(unittest.TestCase):

    def test_rate(self):
        for net, widths in nets_and_widths():
            self.assertEqual(rate(net, widths), rate_apart(net, widths))

    def test_told_rates(self):
        self.assertEqual(rate(Net(2, 0, ()), ()), 0)
        self.assertEqual(rate(Net(2, 0, ((0, 1),) * 60), (20,) * 60), 1200)
        self.assertEqual(rate(Net(2, 0, ((0, 1), (1, 0), (0, 1))), (3, 20, 4)), 7)
        self.assertEqual(rate(Net(3, 0, ((0, 1), (0, 2), (1, 2), (2, 1))), (2, 1, 1, 1)), 2)
        self.assertEqual(rate(Net(3, 0, ((0, 1), (1, 2))), (5, 0)), 0)
        self.assertEqual(rate(line_net(), (20, 19, 18, 17, 16, 15, 14, 13)), 16)


class LoadsTest(unittest.TestCase):

    def judge(self, net, widths, many, told):
        self.assertIs(told.__class__, tuple)
        for pair in told:
            self.assertIs(pair.__class__, tuple)
            times, tree = pair
            self.assertIs(times.__class__, int)
            self.assertIs(tree.__class__, tuple)
            self.assertEqual(list(tree), sorted(set(tree)))
        self.assertTrue(judged(net, widths, many, told))
        self.assertIs(are_loads(net, widths, many, told), True)

    def test_as_many_as_the_rate_lets(self):
        greatest = 0
        for net, widths in nets_and_widths():
            most = rate_apart(net, widths)
            greatest = max(greatest, most)
            for many in {1, most // 2, most, 40}:
                if many <= min(40, most):
                    self.judge(net, widths, many, loads(net, widths, many))
        self.assertGreater(greatest, 40)

    def test_one_more(self):
        barred = 0
        for net, widths in nets_and_widths():
            most = rate_apart(net, widths)
            for many in {most + 1, 40}:
                if most < many <= 40:
                    barred += 1
                    first = [side for side in going_through(net) if sum_of(net, widths, side) < many][0]
                    with self.assertRaises(Barred) as caught:
                        loads(net, widths, many)
                    self.assertEqual(caught.exception.side, first)
        self.assertGreater(barred, 100)

    def test_none(self):
        self.assertEqual(loads(Net(2, 0, ()), (), 0), ())
        for net, widths in nets_and_widths()[::9]:
            self.assertEqual(loads(net, widths, 0), ())
            self.assertIs(are_loads(net, widths, 0, ()), True)

    def test_forty(self):
        net = Net(2, 1, ((1, 0), (0, 1), (1, 0), (1, 0)))
        told = loads(net, (20, 20, 0, 20), 40)
        self.assertEqual(told, ((20, (0,)), (20, (3,))))
        self.assertRaises(Barred, loads, net, (20, 20, 0, 19), 40)
        self.judge(net, (20, 20, 1, 19), 40, loads(net, (20, 20, 1, 19), 40))
        chance = random.Random(16)
        net = net_of_trees(chance, 10, 6, 6)
        widths = tuple(chance.randrange(7, 21) for _ in net.links)
        self.judge(net, widths, 40, loads(net, widths, 40))

    def test_what_no_tree_alone_can_do(self):
        # Each link is in two trees of three.
        net = Net(3, 0, ((0, 1), (0, 2), (1, 2), (2, 1)))
        told = loads(net, (2, 2, 1, 1), 3)
        self.judge(net, (2, 2, 1, 1), 3, told)
        self.assertEqual(told, ((1, (0, 1)), (1, (0, 2)), (1, (1, 3))))

    def test_the_first_side_is_told(self):
        net = Net(4, 1, ((1, 2), (1, 0), (1, 0), (2, 3), (3, 2)))
        with self.assertRaises(Barred) as caught:
            loads(net, (4, 1, 1, 20, 20), 5)
        self.assertEqual(caught.exception.side, (0,))
        with self.assertRaises(Barred) as caught:
            loads(net, (4, 3, 2, 20, 20), 5)
        self.assertEqual(caught.exception.side, (2, 3))
        with self.assertRaises(Barred) as caught:
            loads(net, (4, 3, 2, 4, 20), 5)
        self.assertEqual(caught.exception.side, (3,))
        with self.assertRaises(Barred) as caught:
            loads(Net(3, 2, ()), (), 1)
        self.assertEqual(caught.exception.side, (0,))


class AreLoadsTest(unittest.TestCase):

    def test_told_ones(self):
        net = Net(3, 0, ((0, 1), (0, 2), (1, 2), (2, 1)))
        widths = (2, 1, 1, 1)
        for told in (((1, (0, 1)), (1, (0, 2))), ((1, (0, 2)), (1, (1, 3)))):
            self.assertIs(are_loads(net, widths, 2, told), True)
            self.assertIs(are_loads(net, widths, 1, told), False)
            self.assertIs(are_loads(net, widths, 3, told), False)
        self.assertIs(are_loads(net, widths, 1, ((1, (1, 3)),)), True)
        self.assertIs(are_loads(net, widths, 0, ()), True)
        self.assertIs(are_loads(net, (20,) * 4, 40, ((20, (0, 2)), (20, (1, 3)))), True)
        self.assertIs(are_loads(net, (20,) * 4, 20, ((20, (0, 2)),)), True)
        self.assertIs(are_loads(net, (20,) * 4, 21, ((21, (0, 2)),)), False)

    def test_bent_ones(self):
        net = Net(3, 0, ((0, 1), (0, 2), (1, 2), (2, 1)))
        widths = (2, 1, 1, 1)
        bent = [
            ((1, (0, 2)), (1, (0, 1))), ((1, (0, 2)), (1, (0, 2))), ((2, (0, 2)),), ((2, (0, 1)),),
            ((1, (0, 1)), (1, (1, 3))), ((0, (0, 1)), (2, (0, 2))), ((1, (0, 1)), (1, (0, 2)), (0, (1, 3))),
            ((-1, (0, 1)), (3, (0, 2))), ((True, (0, 1)), (1, (0, 2))), ((1, (0, 1)), (True, (0, 2))),
            ((1, (0, 1)), (1, (2, 0))), ((1, [0, 1]), (1, (0, 2))), ([1, (0, 1)], (1, (0, 2))),
            [(1, (0, 1)), (1, (0, 2))], ((1, (0, 1)), (1, (0, 2), 1)), ((1, (0, 1)), (1,)), ((1, (0, 1)), ()),
            ((1, (0, 1)), (1, (0,))), ((1, (0, 1)), (1, (2, 3))), (((0, 1), 1), ((0, 2), 1)),
            ((1, (0, 1)), (1, None)), ((1, (0, 1)), (None, (0, 2))), ((1, (0, 1)), (1, (0, 2)), None), (),
            ((1, (0, 1)), ("1", (0, 2))), {1: (0, 1)}, None, 0, "", net, (1, (0, 1)), ((1, (0, 4)), (1, (0, 2))),
            ((10 ** 59, (0, 1)),), ((1, (0, 1)), ((1, (0, 2)),)),
        ]
        for thing in bent:
            self.assertIs(are_loads(net, widths, 2, thing), False, thing)
        self.assertIs(are_loads(net, widths, 0, ((0, (0, 1)),)), False)
        self.assertIs(are_loads(net, widths, 0, []), False)

    def test_bent_loads(self):
        for net, widths in nets_and_widths()[::3]:
            many = min(40, rate_apart(net, widths))
            told = loads(net, widths, many)
            for at, (times, tree) in enumerate(told):
                ahead, behind = told[:at], told[at + 1:]
                for pair in ((times + 1, tree), (times - 1, tree), (times, tree[1:]), (times, tree[:-1])):
                    self.assertIs(are_loads(net, widths, many, ahead + (pair,) + behind), False)
                for more in (times + 1, times - 1):
                    other = ahead + ((more, tree),) + behind
                    now = many + more - times
                    if 0 <= now <= 40:
                        self.assertIs(are_loads(net, widths, now, other), judged(net, widths, now, other))
                self.assertIs(are_loads(net, widths, many, ahead + behind), False)
                self.assertIs(are_loads(net, widths, many - times, ahead + behind), True)
                if times > 1:
                    halves = ((1, tree), (times - 1, tree))
                    self.assertIs(are_loads(net, widths, many, ahead + halves + behind), False)
                self.assertIs(are_loads(net, widths, many, ahead + ([times, tree],) + behind), False)
            if len(told) > 1:
                self.assertIs(are_loads(net, widths, many, told[::-1]), False)
                self.assertIs(are_loads(net, widths, many, told[1:] + told[:1]), False)
            self.assertIs(are_loads(net, widths, many, list(told)), False)

    def test_widths_just_passed(self):
        for net, widths in nets_and_widths()[::5]:
            many = min(40, rate_apart(net, widths))
            told = loads(net, widths, many)
            for link, width in enumerate(widths):
                if width:
                    other = widths[:link] + (width - 1,) + widths[link + 1:]
                    self.assertIs(are_loads(net, other, many, told), judged(net, other, many, told))
                    just = sum(times for times, tree in told if link in tree)
                    other = widths[:link] + (just,) + widths[link + 1:]
                    self.assertIs(are_loads(net, other, many, told), True)

    def test_all_pairs_of_trees(self):
        net = Net(3, 0, ((0, 1), (0, 2), (1, 2), (2, 1), (0, 2)))
        lots = subsets(range(5))
        for one in lots:
            for other in lots:
                for widths in ((1, 1, 1, 1, 1), (2, 1, 0, 1, 1), (2, 2, 2, 2, 2)):
                    told = ((1, one), (1, other))
                    self.assertIs(are_loads(net, widths, 2, told), judged(net, widths, 2, told))

    def test_any_thing(self):
        net = Net(2, 0, ((1, 0), (1, 0), (1, 0), (0, 1), (0, 1)))
        widths = (1, 1, 1, 1, 1)
        self.assertIs(are_loads(net, widths, 2, ((1, (3,)), (1, (4,)))), True)
        for thing in odd_things():
            self.assertIs(are_loads(net, widths, 1, thing), False)
            self.assertIs(are_loads(net, widths, 1, (thing,)), False)
            self.assertIs(are_loads(net, widths, 1, ((thing, (3,)),)), False)
            self.assertIs(are_loads(net, widths, 1, ((1, thing),)), False)
            self.assertIs(are_loads(net, widths, 1, ((1, (thing,)),)), False)
            self.assertIs(are_loads(net, widths, 2, ((1, (3,)), thing)), False)


class WrongArgumentsTest(unittest.TestCase):

    def calls(self, net, widths, many):
        return [lambda: loads(net, widths, many), lambda: are_loads(net, widths, many, ()),
                lambda: are_loads(net, widths, many, "no loads")]

    def test_no_net(self):
        for thing in odd_things() + [0, (), (3, 0, ())]:
            self.assertRaises(NoNet, rate, thing, "no widths")
            for call in self.calls(thing, "no widths", "no number"):
                self.assertRaises(NoNet, call)

    def test_no_widths(self):
        net = Net(3, 0, ((0, 1), (1, 2)))
        self.assertEqual(rate(net, (0, 20)), 0)
        bent = [(), (1,), (1, 2, 3), [1, 2], (1, 21), (21, 1), (-1, 2), (1, True), (False, 1), (1, None), ("1", 2),
                (1, (2,)), (10 ** 59, 1), {0: 1, 1: 2}, range(2), "12", None, 1, net, (net, net)]
        for thing in bent + odd_things():
            if thing not in ((1, 0), (1, 1), (0, 0), (2, 1)):
                self.assertRaises(NoWidths, rate, net, thing)
                for call in self.calls(net, thing, "no number"):
                    self.assertRaises(NoWidths, call)

    def test_no_number(self):
        net = Net(2, 0, ((0, 1),) * 3)
        for thing in list(NO_TIMES) + odd_things():
            for call in self.calls(net, (20, 20, 20), thing):
                self.assertRaises(NoNumber, call)
        for many in range(41):
            self.assertIs(are_loads(net, (20, 20, 20), many, loads(net, (20, 20, 20), many)), True)


if __name__ == "__main__":
    unittest.main()
