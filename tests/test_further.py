import itertools
import random
import unittest

from sparetrees.errors import NoNet, NoNumber
from sparetrees.further import greatest_lack, is_enough, is_lack, lacking, to_add
from sparetrees.nets import Net, every_link, supply
from tests.samples import (
    count_of, going_through, line_net, net_of_trees, nets_and_lots, odd_things, rich_nets, small_nets,
    subsets)

NO_COUNTS = (21, 22, 60, -1, True, False, None, "1", (1,), [1], 10 ** 59, -(10 ** 59), Net(2, 0, ()))


def enough_apart(net, many, pairs):
    return all(count_of(net, range(len(net.links)), side)
               + sum(1 for start, end in pairs if start not in side and end in side) >= many
               for side in going_through(net))


def lack_apart(net, lack):
    return (all(side in going_through(net) for side in lack) and list(lack) == sorted(lack)
            and all(not set(one) & set(other) for one, other in itertools.combinations(lack, 2)))


def weight(net, many, lack):
    return sum(many - count_of(net, range(len(net.links)), side) for side in lack)


def all_lacks(net):
    """All lacks of a net of few places."""
    return [tuple(sorted(lack)) for lack in subsets(going_through(net)) if lack_apart(net, tuple(sorted(lack)))]


def sample_nets():
    return rich_nets() + [net for net, _ in nets_and_lots()]


class LackingTest(unittest.TestCase):

    def judge(self, net, many):
        """That pairs and a lack of one weight are told: so neither can be better."""
        fewest = lacking(net, many)
        self.assertIs(fewest.__class__, int)
        pairs = to_add(net, many)
        self.assertIs(pairs.__class__, tuple)
        self.assertEqual(len(pairs), fewest)
        for pair in pairs:
            self.assertIs(pair.__class__, tuple)
            self.assertNotEqual(pair[0], pair[1])
        self.assertTrue(enough_apart(net, many, pairs))
        self.assertIs(is_enough(net, many, pairs), True)
        lack = greatest_lack(net, many)
        self.assertIs(lack.__class__, tuple)
        self.assertTrue(lack_apart(net, lack))
        self.assertIs(is_lack(net, lack), True)
        self.assertEqual(weight(net, many, lack), fewest)
        if fewest == 0:
            self.assertEqual(lack, ())
        for at in range(0, fewest, max(1, fewest // 6)):
            left = pairs[:at] + pairs[at + 1:]
            self.assertIs(is_enough(net, many, left), False)
        return fewest

    def test_any_nets(self):
        for net in sample_nets():
            least = supply(net, every_link(net))
            for many in {0, 1, 3, min(20, least), min(20, least + 1), 20}:
                self.assertEqual(self.judge(net, many) == 0, many <= least)

    def test_all_lacks_of_small_nets(self):
        chance = random.Random(30)
        nets = small_nets(chance, 30, 4, 8)
        nets += [net_of_trees(chance, 4, chance.randrange(3), chance.randrange(4)) for _ in range(10)]
        for net in nets:
            lacks = all_lacks(net)
            for many in (0, 1, 2, 3, 5):
                greatest = max(weight(net, many, lack) for lack in lacks)
                self.assertEqual(self.judge(net, many), greatest)

    def test_all_pairs_of_small_nets(self):
        chance = random.Random(31)
        seen = []
        for net in small_nets(chance, 40, 3, 6) + small_nets(chance, 15, 4, 8):
            pairs = [pair for pair in itertools.product(range(net.many), repeat=2) if pair[0] != pair[1]]
            for many in (1, 2):
                count = 0
                while not any(enough_apart(net, many, told)
                              for told in itertools.combinations_with_replacement(pairs, count)):
                    count += 1
                seen.append(count)
                self.assertEqual(lacking(net, many), count)
        self.assertGreater(len(set(seen)), 4)

    def test_no_links(self):
        for places in range(2, 11):
            for root in (0, places - 1):
                net = Net(places, root, ())
                for many in (0, 1, 20):
                    self.assertEqual(self.judge(net, many), many * (places - 1))

    def test_rows(self):
        for places in (2, 5, 10):
            net = Net(places, 0, tuple((place, place + 1) for place in range(places - 1)))
            self.assertEqual([self.judge(net, many) for many in (0, 1, 2, 3, 20)],
                             [0, 0, places - 1, 2 * (places - 1), 19 * (places - 1)])
            # A row that leads to the root helps it alone, but each place is entered from the next one.
            net = Net(places, 0, tuple((place + 1, place) for place in range(places - 1)))
            self.assertEqual([self.judge(net, many) for many in (0, 1, 2)], [0, 1, 1 + (places - 1)])

    def test_rings_away_from_the_root(self):
        # A ring of 1, 2, 3 and one of 4, 5: one link into each is enough for 1.
        rings = ((1, 2), (2, 3), (3, 1), (4, 5), (5, 4))
        net = Net(6, 0, rings)
        self.assertEqual(self.judge(net, 1), 2)
        self.assertEqual(greatest_lack(net, 1), ((1, 2, 3), (4, 5)))
        self.assertEqual(self.judge(net, 2), 5)
        net = Net(6, 0, rings + ((3, 4),))
        self.assertEqual(self.judge(net, 1), 1)
        self.assertIn(greatest_lack(net, 1), (((1, 2, 3),), ((1, 2, 3, 4, 5),)))
        net = Net(6, 0, rings + ((0, 5),))
        self.assertEqual(self.judge(net, 1), 1)
        self.assertEqual(greatest_lack(net, 1), ((1, 2, 3),))
        net = Net(3, 0, ((1, 2), (2, 1)) * 20)
        self.assertEqual([self.judge(net, many) for many in (0, 1, 20)], [0, 1, 20])
        self.assertEqual(greatest_lack(net, 20), ((1, 2),))

    def test_e06(self):
        net = Net(3, 0, ((0, 1), (0, 2), (1, 2), (2, 1)))
        self.assertEqual((lacking(net, 3), greatest_lack(net, 3)), (2, ((1,), (2,))))

    def test_greatest_lack_is_none_where_nothing_lacks(self):
        net = Net(3, 0, ((0, 1), (0, 2)))
        self.assertEqual((greatest_lack(net, 1), to_add(net, 1), lacking(net, 1)), ((), (), 0))
        self.assertEqual((greatest_lack(net, 0), to_add(net, 0), lacking(net, 0)), ((), (), 0))

    def test_wrong_arguments(self):
        for thing in odd_things() + [0, (), (3, 0, ())]:
            for function in (lacking, to_add, greatest_lack):
                self.assertRaises(NoNet, function, thing, "no number")
            self.assertRaises(NoNet, is_enough, thing, "no number", ())
            self.assertRaises(NoNet, is_lack, thing, ())
        net = line_net()
        for thing in list(NO_COUNTS) + odd_things():
            for function in (lacking, to_add, greatest_lack):
                self.assertRaises(NoNumber, function, net, thing)
            self.assertRaises(NoNumber, is_enough, net, thing, ())
            self.assertRaises(NoNumber, is_enough, net, thing, "no pairs")
        for many in range(21):
            self.judge(net, many)


class IsEnoughTest(unittest.TestCase):

    def test_told_pairs(self):
        net = Net(3, 0, ((0, 1), (0, 2), (1, 2), (2, 1)))
        for pairs in ((), ((1, 0),), ((0, 1),) * 200):
            self.assertIs(is_enough(net, 2, pairs), True)
        for pairs in (((0, 1), (0, 2)), ((0, 1), (1, 2)), ((0, 2), (2, 1)), ((0, 2), (0, 1), (1, 0)),
                      ((0, 2),) + ((2, 1),) * 199):
            self.assertIs(is_enough(net, 3, pairs), True)
        for pairs in ((), ((0, 1),), ((0, 2),), ((1, 2), (2, 1)), ((0, 1),) * 200, ((1, 0), (2, 0)), ((2, 1), (1, 2)) * 50):
            self.assertIs(is_enough(net, 3, pairs), False)

    def test_two_hundred_pairs(self):
        net = Net(2, 0, ())
        self.assertIs(is_enough(net, 20, ((0, 1),) * 20), True)
        self.assertIs(is_enough(net, 20, ((0, 1),) * 19), False)
        self.assertIs(is_enough(net, 20, ((0, 1),) * 200), True)
        self.assertIs(is_enough(net, 20, ((0, 1),) * 201), False)
        self.assertIs(is_enough(net, 0, ((1, 0),) * 200), True)
        self.assertIs(is_enough(net, 0, ((1, 0),) * 201), False)

    def test_bent_pairs(self):
        net = Net(3, 0, ())
        bent = [
            [], [(0, 1)], ([0, 1],), ((0, 1), [0, 2]), (0, 1), ((0, 0),), ((1, 1),), ((0, 3),), ((3, 0),), ((0, -1),),
            ((0,),), ((0, 1, 2),), ((),), ((0, True),), ((False, 1),), ((0, "1"),), ((0, None),), (None,), ("01",),
            ((0, (1,)),), (((0, 1),),), {(0, 1): (0, 2)}, {}, "", None, 0, net, (net,), ((0, 10 ** 59),), range(0),
        ]
        for thing in bent:
            self.assertIs(is_enough(net, 0, thing), False, thing)
            self.assertIs(is_enough(Net(3, 0, ((0, 1), (0, 2))), 1, thing), False, thing)
        self.assertIs(is_enough(net, 0, ()), True)
        self.assertIs(is_enough(net, 0, ((0, 1), (2, 0))), True)

    def test_random_pairs(self):
        chance = random.Random(32)
        found = []
        for net in sample_nets():
            least = supply(net, every_link(net))
            for many in {min(20, least + more) for more in (0, 1, 2)}:
                pairs = list(to_add(net, many))
                for _ in range(chance.randrange(4)):
                    pairs.append(tuple(chance.sample(range(net.many), 2)))
                if pairs and chance.randrange(2):
                    pairs[chance.randrange(len(pairs))] = tuple(chance.sample(range(net.many), 2))
                found.append(is_enough(net, many, tuple(pairs)))
                self.assertIs(found[-1], enough_apart(net, many, pairs))
        self.assertGreater(min(found.count(True), found.count(False)), 40)

    def test_any_thing(self):
        net = Net(2, 0, ())
        for thing in odd_things():
            if thing != ():
                self.assertIs(is_enough(net, 0, thing), False)
            if thing != (1, 0):
                self.assertIs(is_enough(net, 0, (thing,)), False)
                self.assertIs(is_enough(net, 0, ((0, 1), thing)), False)
            self.assertIs(is_enough(net, 0, ((0, 1), (thing, 1))), False)
            self.assertIs(is_enough(net, 0, ((0, 1), (0, thing))), False)


class IsLackTest(unittest.TestCase):

    def test_told_lacks(self):
        net = Net(4, 2, ((2, 0),))
        for lack in ((), ((0,),), ((0, 1, 3),), ((0,), (1,), (3,)), ((0, 1), (3,)), ((0, 3), (1,)), ((1, 3),)):
            self.assertIs(is_lack(net, lack), True)
        bent = [
            [], [(0,)], ([0],), ((0,), [1]), (0,), ((),), ((), (0,)), ((2,),), ((0, 2),), ((4,),), ((-1,),), ((1, 0),),
            ((0, 0),), ((1,), (0,)), ((0,), (0,)), ((0, 1), (1,)), ((0,), (0, 1)), ((0, 1), (1, 3)), ((0,), (3,), (1,)),
            ((True,),), ((0, True),), ((False,),), (("0",),), ((None,),), (None,), (((0,),),), {(0,): (1,)}, {}, "",
            None, 0, net, (net,), ((0,), (10 ** 59,)), ((0,), (3,), (3,)),
        ]
        for thing in bent:
            self.assertIs(is_lack(net, thing), False, thing)

    def test_all_tuples_of_sides(self):
        net = Net(4, 0, ())
        sides = subsets(range(4))
        for lack in itertools.chain(itertools.product(sides, repeat=1), itertools.product(sides, repeat=2)):
            self.assertIs(is_lack(net, lack), lack_apart(net, lack))

    def test_any_thing(self):
        net = Net(2, 0, ())
        for thing in odd_things():
            if thing != ():
                self.assertIs(is_lack(net, thing), False)
            self.assertIs(is_lack(net, ((1,), thing)), False)
            self.assertIs(is_lack(net, ((thing,),)), False)
        self.assertIs(is_lack(net, ((1,),)), True)


if __name__ == "__main__":
    unittest.main()
