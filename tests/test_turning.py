import random
import unittest

from sparetrees.errors import NoNumber, NoPlan, Unlike
from sparetrees.nets import Net
from sparetrees.plans import Plan
from sparetrees.turning import clash, least_rest
from tests.plan_samples import (
    depth_of_links, goes_together, like_plans, line_plan, no_plans, rest_apart, sized_plan, star_plan)
from tests.samples import odd_things


def many_pairs():
    chance = random.Random(90)
    for _ in range(150):
        yield like_plans(chance, 2)


def turned_line(many, back):
    """A plan of one tree along a row of places, or along the same links of the ways there at once."""
    pairs = tuple((place, place + 1) for place in range(many - 1)) + tuple((0, place) for place in range(2, many))
    lot = range(many - 1) if back else [0] + list(range(many - 1, 2 * many - 3))
    return sized_plan(Net(many, 0, pairs), [lot], 1)


class LeastRestTest(unittest.TestCase):

    def test_against_a_timetable(self):
        rests = []
        for elder, newer in many_pairs():
            rest = least_rest(elder, newer)
            rests.append(rest)
            self.assertIs(rest.__class__, int)
            self.assertTrue(goes_together(elder, newer, rest))
            if rest > 0:
                self.assertFalse(goes_together(elder, newer, rest - 1))
            self.assertEqual(rest, rest_apart(elder, newer))
        self.assertGreater(min(rests.count(0), len(rests) - rests.count(0)), 20)
        self.assertGreater(max(rests), 1)

    def test_the_greatest_of_all_differences(self):
        for elder, newer in many_pairs():
            old, new = depth_of_links(elder), depth_of_links(newer)
            self.assertEqual(least_rest(elder, newer), max([0] + [old[link] - new[link] for link in old if link in new]))

    def test_deeper_in_the_elder_or_the_newer_one(self):
        # Link 2, from place 2 to 3, is of depth 3 behind links 0 and 1, and of depth 2 behind link 3.
        net = Net(4, 0, ((0, 1), (1, 2), (2, 3), (0, 2)))
        deep, flat = Plan(net, ((0, 1, 2),), 1), Plan(net, ((0, 2, 3),), 1)
        self.assertEqual((least_rest(deep, flat), least_rest(flat, deep)), (1, 0))
        self.assertEqual((clash(deep, flat, 0), clash(flat, deep, 0), clash(deep, flat, 1)), ((2, 3, 2), None, None))
        longer = Plan(Net(4, 0, net.links + ((0, 3), (3, 2))), ((0, 4, 5),), 1)
        self.assertEqual((least_rest(deep, longer), least_rest(longer, deep)), (0, 0))

    def test_a_link_that_came_far(self):
        # The last link of a row of ten places, of depth 9, is the first one of another plan.
        pairs = tuple((place, place + 1) for place in range(9)) + ((0, 8), ) + tuple((9, place) for place in range(1, 8))
        net = Net(10, 0, pairs)
        elder, newer = sized_plan(net, [range(9)], 1), sized_plan(net, [[8] + list(range(9, 17))], 1)
        self.assertEqual((least_rest(elder, newer), least_rest(newer, elder)), (7, 0))
        self.assertEqual((clash(elder, newer, 6), clash(elder, newer, 7)), ((8, 9, 2), None))

    def test_a_plan_and_itself(self):
        for plan in (star_plan(4, 3, 2), line_plan(5, 2, 1)):
            self.assertEqual((least_rest(plan, plan), clash(plan, plan, 0)), (0, None))

    def test_links_in_one_of_them_alone(self):
        net = Net(3, 0, ((0, 1), (1, 2), (0, 2), (2, 1)))
        self.assertEqual(least_rest(Plan(net, ((0, 1),), 1), Plan(net, ((2, 3),), 1)), 0)

    def test_other_trees_of_one_link(self):
        # The link goes from the second tree of one plan to the first tree of the other one.
        net = Net(3, 0, ((0, 1), (0, 2), (0, 1), (1, 2), (0, 2)))
        elder = Plan(net, ((0, 1), (2, 3)), 1)
        newer = Plan(net, ((0, 4), (1, 2)), 2)
        self.assertRaises(Unlike, least_rest, elder, newer)
        self.assertEqual(least_rest(elder, Plan(net, ((0, 4), (1, 2)), 1)), 0)


class ClashTest(unittest.TestCase):

    def test_the_least_triple(self):
        told = 0
        for elder, newer in many_pairs():
            old, new = depth_of_links(elder), depth_of_links(newer)
            for rest in (0, 1, 2, 3, 100):
                expected = [(link, old[link], new[link]) for link in sorted(old)
                            if link in new and old[link] - new[link] > rest]
                found = clash(elder, newer, rest)
                self.assertEqual(found, expected[0] if expected else None)
                told += found is not None
                self.assertEqual(found is None, rest >= least_rest(elder, newer))
                self.assertEqual(found is None, goes_together(elder, newer, rest))
        self.assertGreater(told, 20)

    def test_the_first_link_of_several(self):
        elder, newer = turned_line(6, True), turned_line(6, False)
        self.assertEqual(clash(elder, newer, 0), None)
        net = Net(5, 0, ((0, 1), (1, 2), (2, 3), (3, 4), (0, 3), (0, 2)))
        elder = sized_plan(net, [(0, 1, 2, 3)], 1)
        # Links 2 and 3 have depths 3 and 4 in the elder one, 2 and 3 in the newer one.
        newer = sized_plan(net, [(0, 2, 3, 5)], 1)
        self.assertEqual((clash(elder, newer, 0), clash(elder, newer, 1)), ((2, 3, 2), None))
        newest = sized_plan(net, [(0, 3, 4, 5)], 1)
        self.assertEqual((clash(elder, newest, 0), clash(elder, newest, 1), clash(elder, newest, 2)),
                         ((3, 4, 2), (3, 4, 2), None))

    def test_the_least_link_is_not_the_first_of_the_way(self):
        net = Net(5, 0, ((3, 4), (2, 3), (1, 2), (0, 1), (0, 2), (3, 4), (2, 3), (1, 2), (0, 1)))
        elder, newer = sized_plan(net, [(0, 1, 2, 3)], 1), sized_plan(net, [(0, 1, 3, 4)], 1)
        self.assertEqual((clash(elder, newer, 0), clash(elder, newer, 1)), ((0, 4, 3), None))
        # Nor is it that of the first tree.
        elder = sized_plan(net, [(5, 6, 7, 8), (0, 1, 2, 3)], 1)
        newer = sized_plan(net, [(0, 4, 6, 8)], 1)
        self.assertEqual(clash(elder, newer, 0), (0, 4, 3))

    def test_rests(self):
        plan = line_plan(3, 1, 1)
        for thing in odd_things() + [-1, 101, 10 ** 59, True, "0", (0,)]:
            self.assertRaises(NoNumber, clash, plan, plan, thing)
        for rest in (0, 1, 99, 100):
            self.assertIsNone(clash(plan, plan, rest))


class LikeTest(unittest.TestCase):

    def unlike_of(self, plan):
        """Plans that are not like a plan of places 0 to 2, the root 0, size 1 and links (0, 1), (0, 2), (1, 2)."""
        links = plan.of_net.links
        return [
            Plan(Net(4, 0, links + ((0, 3),)), ((0, 1, 3),), 1), Plan(Net(2, 0, ((0, 1),)), ((0,),), 1),
            Plan(Net(3, 1, links + ((1, 0),)), ((2, 3),), 1), Plan(Net(3, 0, ((0, 2), (0, 1), (1, 2))), ((0, 1),), 1),
            Plan(Net(3, 0, links + ((0, 1), (0, 2))), ((0, 1), (3, 4)), 2),
            Plan(Net(3, 0, links[:2] + ((2, 1),)), ((0, 1),), 1), Plan(Net(3, 0, links[1:] + ((0, 1),)), ((0, 2),), 1),
            Plan(Net(3, 0, ((0, 1),) + links), ((0, 2),), 1),
        ]

    def test_unlike_plans(self):
        plan = Plan(Net(3, 0, ((0, 1), (0, 2), (1, 2))), ((0, 1),), 1)
        for other in self.unlike_of(plan):
            for one, two in ((plan, other), (other, plan)):
                self.assertRaises(Unlike, least_rest, one, two)
                self.assertRaises(Unlike, clash, one, two, 0)
                # It is told ahead of a wrong rest.
                self.assertRaises(Unlike, clash, one, two, -1)

    def test_like_plans(self):
        plan = Plan(Net(3, 0, ((0, 1), (0, 2), (1, 2))), ((0, 1),), 1)
        more = ((0, 1), (0, 2), (1, 2), (0, 1), (0, 2))
        for other in (
                Plan(Net(3, 0, more[:2]), ((0, 1),), 1), Plan(Net(3, 0, more), ((0, 1), (3, 4)), 1),
                Plan(Net(3, 0, more), ((2, 3),), 1), Plan(Net(3, 0, more[:4]), ((0, 1),), 1)):
            self.assertEqual((least_rest(plan, other), clash(plan, other, 0)), (0, None))
            self.assertEqual(least_rest(other, plan), 0)

    def test_no_plans(self):
        plan = line_plan(3, 1, 1)
        for thing in no_plans():
            self.assertRaises(NoPlan, least_rest, thing, plan)
            self.assertRaises(NoPlan, least_rest, plan, thing)
            self.assertRaises(NoPlan, clash, thing, plan, 0)
            self.assertRaises(NoPlan, clash, plan, thing, 0)
            self.assertRaises(NoPlan, clash, plan, thing, -1)
            # NoPlan of the newer one comes ahead of Unlike, which needs both.
            self.assertRaises(NoPlan, least_rest, thing, line_plan(4, 1, 1))


if __name__ == "__main__":
    unittest.main()
