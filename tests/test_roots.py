import random
import unittest

from sparetrees.errors import Barred, NoNet, NoParts, NoRoots
from sparetrees.nets import Net, every_link, supply
from sparetrees.packing import is_packing, packing
from sparetrees.roots import are_woods, continued, is_continued, woods
from tests.samples import (
    count_of, going_through, going_through_lots, grows_apart, line_net, net_of_trees, nets_and_lots,
    no_link_twice, odd_things, random_net, rich_nets, small_nets, subsets, tree_apart, wood_apart)


def random_roots(chance, net, most):
    lots = []
    for _ in range(chance.randrange(1, most + 1)):
        size = chance.choice([1, 1, 2, 3, net.many, chance.randrange(1, net.many + 1)])
        lots.append(tuple(sorted(chance.sample(range(net.many), min(size, net.many)))))
    return tuple(lots)


def missed_by(begun, places):
    """How many of some lots have none of some places."""
    return sum(1 for lot in begun if not set(lot) & set(places))


def first_barred(net, links, begun, sides):
    for side in sides:
        if count_of(net, links, side) < missed_by(begun, side):
            return side
    return None


def net_of_woods(chance, many, roots, more):
    """A net, with any root, whose links are those of a wood of each of the roots, and some more."""
    pairs = []
    for begun in roots:
        heard = list(begun)
        others = [place for place in range(many) if place not in begun]
        chance.shuffle(others)
        for place in others:
            pairs.append((chance.choice(heard), place))
            heard.append(place)
    for _ in range(more):
        pairs.append(tuple(chance.sample(range(many), 2)))
    chance.shuffle(pairs)
    return Net(many, chance.randrange(many), tuple(pairs[:60]))


class WoodsTest(unittest.TestCase):

    def judge(self, net, roots, told):
        self.assertIs(told.__class__, tuple)
        self.assertEqual(len(told), len(roots))
        for begun, wood in zip(roots, told):
            self.assertIs(wood.__class__, tuple)
            self.assertEqual(list(wood), sorted(set(wood)))
            self.assertTrue(wood_apart(net, begun, wood))
        self.assertTrue(no_link_twice(told))
        self.assertIs(are_woods(net, roots, told), True)

    def check(self, net, roots):
        """Whether there are woods, judged by the fact of woods."""
        barred = first_barred(net, range(len(net.links)), roots, going_through_lots(net.many))
        if barred is None:
            self.judge(net, roots, woods(net, roots))
        else:
            with self.assertRaises(Barred) as caught:
                woods(net, roots)
            self.assertEqual(caught.exception.side, barred)
        return barred is None

    def test_any_nets_and_roots(self):
        chance = random.Random(8)
        found = [self.check(net, random_roots(chance, net, 4)) for net, _ in nets_and_lots() for _ in range(2)]
        self.assertGreater(found.count(True), 30)
        self.assertGreater(found.count(False), 30)

    def test_nets_that_hold_woods(self):
        chance = random.Random(9)
        for _ in range(60):
            many = chance.randrange(2, 9)
            roots = random_roots(chance, Net(many, 0, ()), 12)
            while sum(many - len(begun) for begun in roots) > 60:
                roots = roots[1:]
            self.assertTrue(self.check(net_of_woods(chance, many, roots, 0), roots))
            self.check(net_of_woods(chance, many, roots, 4), roots)

    def test_the_first_lot_is_told(self):
        # Lots of places with the root bar, too.
        net = Net(3, 0, ((0, 1), (1, 2)))
        with self.assertRaises(Barred) as caught:
            woods(net, ((1,),))
        self.assertEqual(caught.exception.side, (0,))
        with self.assertRaises(Barred) as caught:
            woods(net, ((2,),))
        self.assertEqual(caught.exception.side, (0,))
        net = Net(4, 3, ((3, 0), (0, 3), (1, 2), (2, 1)))
        with self.assertRaises(Barred) as caught:
            woods(net, ((0,),))
        self.assertEqual(caught.exception.side, (1, 2))
        with self.assertRaises(Barred) as caught:
            woods(net, ((1,),))
        self.assertEqual(caught.exception.side, (0, 3))
        with self.assertRaises(Barred) as caught:
            woods(net, ((1,), (3,), (0, 1, 2)))
        self.assertEqual(caught.exception.side, (0,))
        with self.assertRaises(Barred) as caught:
            woods(net, ((0, 1, 2), (0, 1, 2, 3), (0, 1, 2)))
        self.assertEqual(caught.exception.side, (3,))

    def test_a_look_at_all_woods_of_small_nets(self):
        chance = random.Random(10)
        found = []
        for net in small_nets(chance, 60, 4, 7):
            roots = random_roots(chance, net, 2)
            lots = subsets(range(len(net.links)))
            rows = [[lot for lot in lots if wood_apart(net, begun, lot)] for begun in roots]
            if len(rows) == 1:
                there = len(rows[0]) > 0
            else:
                there = any(not set(one) & set(other) for one in rows[0] for other in rows[1])
            self.assertEqual(self.check(net, roots), there)
            found.append(there)
        self.assertGreater(min(found.count(True), found.count(False)), 10)

    def test_the_root_of_the_net_plays_no_part(self):
        chance = random.Random(11)
        for _ in range(30):
            net = random_net(chance, chance.randrange(3, 6), chance.randrange(6, 20))
            roots = random_roots(chance, net, 3)
            for root in range(net.many):
                self.check(Net(net.many, root, net.links), roots)

    def test_one_to_twelve(self):
        net = Net(2, 0, ((0, 1),) * 12 + ((1, 0),) * 12)
        self.judge(net, ((0,),) * 12, woods(net, ((0,),) * 12))
        self.judge(net, ((1,),) * 12, woods(net, ((1,),) * 12))
        mixed = ((0,), (1,)) * 6
        self.judge(net, mixed, woods(net, mixed))
        self.assertRaises(NoRoots, woods, net, ((0,),) * 13)
        with self.assertRaises(Barred) as caught:
            woods(Net(2, 0, ((0, 1),) * 11), ((0,),) * 12)
        self.assertEqual(caught.exception.side, (1,))

    def test_lots_of_all_places(self):
        net = Net(3, 0, ())
        self.assertEqual(woods(net, ((0, 1, 2),)), ((),))
        self.assertEqual(woods(net, ((0, 1, 2),) * 12), ((),) * 12)
        net = Net(3, 0, ((2, 1),))
        self.assertEqual(woods(net, ((0, 1, 2), (0, 2), (0, 1, 2))), ((), (0,), ()))

    def test_are_woods(self):
        net = Net(4, 3, ((0, 1), (1, 2), (2, 3), (3, 0), (2, 1), (0, 2), (3, 1)))
        roots = ((0,), (2, 3))
        for told in (((0, 1, 2), (3, 4)), ((0, 1, 2), (3, 6)), ((0, 2, 5), (3, 4)), ((2, 5, 6), (3, 4)),
                     ((2, 4, 5), (3, 6))):
            self.assertIs(are_woods(net, roots, told), True)
        bent = [
            ((3, 4), (0, 1, 2)), ((0, 1, 2),), ((0, 1, 2), (3, 4), ()), ((0, 1, 2), (0, 3)), ((0, 1, 2), (3,)),
            ((0, 1, 2), (3, 4, 6)), ((0, 1), (3, 4)), ((0, 1, 3), (3, 4)), ((0, 1, 5), (3, 4)), ((1, 2, 4), (3, 6)),
            ((0, 1, 2), (2, 3, 4)), ((0, 1, 2), (1, 3)), ((2, 1, 0), (3, 4)), ([0, 1, 2], (3, 4)),
            [(0, 1, 2), (3, 4)], ((0, 1, 2), None), ((False, 1, 2), (3, 4)), ((0, 1, 2), (3, 7)), (), None,
            ((0, 1, 2), ((3, 4),)), {(0, 1, 2): (3, 4)}, net, (net, net),
        ]
        for thing in bent:
            self.assertIs(are_woods(net, roots, thing), False, thing)
        # Alike roots may be led by each other's woods.
        net = Net(2, 0, ((0, 1), (0, 1)))
        self.assertIs(are_woods(net, ((0,), (0,)), ((0,), (1,))), True)
        self.assertIs(are_woods(net, ((0,), (0,)), ((1,), (0,))), True)
        self.assertIs(are_woods(net, ((0,), (0,)), ((0,), (0,))), False)
        self.assertIs(are_woods(net, ((0,), (0, 1)), ((0,), ())), True)
        self.assertIs(are_woods(net, ((1,),), ((0,),)), False)

    def test_are_woods_of_any_thing(self):
        net = Net(2, 0, ((1, 0), (1, 0), (1, 0), (0, 1)))
        self.assertIs(are_woods(net, ((0,), (0, 1)), ((3,), ())), True)
        for thing in odd_things():
            self.assertIs(are_woods(net, ((0,),), thing), False)
            self.assertIs(are_woods(net, ((0,), (0, 1)), ((3,), thing)), False)
            self.assertIs(are_woods(net, ((0,),), ((thing,),)), False)

    def test_no_roots(self):
        net = line_net()
        bent = [(), [], [(0,)], ((),), ((0,), ()), ((0,),) * 13, ((4,),), ((0, 4),), ((-1,),), ((1, 0),),
                ((0, 0),), ((0,), [1]), ([0],), ((True,),), ((0, True),), ((0,), None), ((0,), 1), (0,), (0, 1),
                ((("0",),),), {(0,): 0}, None, net, (net,), "0", (((0,),),)]
        for thing in bent + [thing for thing in odd_things() if thing != ((1, 2),) and thing != ((0,),)]:
            self.assertRaises(NoRoots, woods, net, thing)
            self.assertRaises(NoRoots, are_woods, net, thing, ())
        for thing in odd_things():
            self.assertRaises(NoRoots, woods, net, ((0,), thing))
            self.assertRaises(NoRoots, are_woods, net, (thing, (0,)), "no woods")

    def test_no_net(self):
        for thing in odd_things():
            self.assertRaises(NoNet, woods, thing, "no roots")
            self.assertRaises(NoNet, are_woods, thing, "no roots", ())
            self.assertRaises(NoNet, continued, thing, "no parts")
            self.assertRaises(NoNet, is_continued, thing, "no parts", ())


def random_part(chance, net, tree):
    """A piece of a tree that grows from the root, perhaps empty or whole."""
    part = ()
    for _ in range(chance.randrange(len(tree) + 1)):
        further = [link for link in tree if link not in part
                   and grows_apart(net, (net.root,), part + (link,))]
        part += (chance.choice(further),)
    return tuple(sorted(part))


class ContinuedTest(unittest.TestCase):

    def judge(self, net, parts, told):
        self.assertIs(told.__class__, tuple)
        self.assertEqual(len(told), len(parts))
        for part, tree in zip(parts, told):
            self.assertIs(tree.__class__, tuple)
            self.assertEqual(list(tree), sorted(set(tree)))
            self.assertTrue(set(part) <= set(tree))
            self.assertTrue(tree_apart(net, tree))
        self.assertTrue(no_link_twice(told))
        self.assertIs(is_continued(net, parts, told), True)

    def check(self, net, parts):
        """Whether there is such a packing, judged by the fact of told parts."""
        rest = [link for link in range(len(net.links)) if link not in sum(parts, ())]
        begun = [{net.root} | {net.links[link][1] for link in part} for part in parts]
        barred = first_barred(net, rest, begun, going_through(net))
        if barred is None:
            self.judge(net, parts, continued(net, parts))
        else:
            with self.assertRaises(Barred) as caught:
                continued(net, parts)
            self.assertEqual(caught.exception.side, barred)
        return barred is None

    def test_e03(self):
        net = Net(3, 0, ((0, 1), (0, 2), (1, 2), (2, 1)))
        self.assertEqual(continued(net, ((0,), ())), ((0, 2), (1, 3)))
        self.assertEqual(continued(net, ((), (0,))), ((1, 3), (0, 2)))

    def test_pieces_of_packings(self):
        chance = random.Random(12)
        for net in rich_nets():
            trees = packing(net, min(12, supply(net, every_link(net))))
            for _ in range(2):
                parts = tuple(random_part(chance, net, tree) for tree in trees)
                if parts:
                    self.assertTrue(self.check(net, parts))
            if trees:
                self.assertEqual(continued(net, trees), trees)
                self.judge(net, ((),) * len(trees), continued(net, ((),) * len(trees)))

    def test_pieces_that_bar(self):
        chance = random.Random(13)
        found = []
        for _ in range(150):
            net = net_of_trees(chance, chance.randrange(3, 7), chance.randrange(1, 4), chance.randrange(3))
            free = list(range(len(net.links)))
            parts = []
            for _ in range(chance.randrange(1, 5)):
                part = ()
                for link in chance.sample(free, len(free)):
                    if chance.randrange(3) == 0 and grows_apart(net, (net.root,), part + (link,)):
                        part += (link,)
                free = [link for link in free if link not in part]
                parts.append(tuple(sorted(part)))
            found.append(self.check(net, tuple(parts)))
        self.assertGreater(min(found.count(True), found.count(False)), 20)

    def test_a_look_at_all_packings_of_small_nets(self):
        chance = random.Random(14)
        found = []
        for _ in range(150):
            net = net_of_trees(chance, chance.randrange(3, 5), chance.randrange(1, 3), chance.randrange(3))
            lots = subsets(range(len(net.links)))
            trees = [lot for lot in lots if tree_apart(net, lot)]
            grown = [lot for lot in lots if grows_apart(net, (net.root,), lot)]
            one, other = chance.choice(grown), chance.choice(grown)
            if not set(one) & set(other):
                there = any(not set(first) & set(second) and set(one) <= set(first) and set(other) <= set(second)
                            for first in trees for second in trees)
                self.assertEqual(self.check(net, (one, other)), there)
                found.append(there)
        self.assertGreater(min(found.count(True), found.count(False)), 20)

    def test_the_first_side_is_told(self):
        net = Net(4, 0, ((0, 1), (1, 2), (2, 3), (0, 3)))
        with self.assertRaises(Barred) as caught:
            continued(net, ((0,), ()))
        self.assertEqual(caught.exception.side, (1,))
        with self.assertRaises(Barred) as caught:
            continued(net, ((0, 1, 2), ()))
        self.assertEqual(caught.exception.side, (1,))
        # A tree that is whole needs nothing more.
        self.assertEqual(continued(net, ((0, 1, 2),)), ((0, 1, 2),))
        self.assertEqual(continued(net, ((0, 3),)), ((0, 1, 3),))
        # Links of a part may not be taken by another one.
        net = Net(3, 0, ((0, 1), (1, 2), (0, 1), (0, 2)))
        self.judge(net, ((2,), (0,)), continued(net, ((2,), (0,))))
        with self.assertRaises(Barred) as caught:
            continued(Net(3, 0, ((0, 1), (0, 1), (1, 2))), ((0, 2), (1,)))
        self.assertEqual(caught.exception.side, (2,))

    def test_twelve_parts(self):
        net = Net(2, 0, ((0, 1),) * 12)
        self.judge(net, ((),) * 12, continued(net, ((),) * 12))
        parts = ((5,), ()) * 1 + ((),) * 9 + ((11,),)
        self.judge(net, parts, continued(net, parts))
        self.assertRaises(NoParts, continued, net, ((),) * 13)

    def test_is_continued(self):
        net = Net(3, 0, ((0, 1), (0, 2), (1, 2), (2, 1)))
        for parts in (((0,), ()), ((), ()), ((0, 2), ()), ((), (1,)), ((), (1, 3)), ((0, 2), (1, 3))):
            self.assertIs(is_continued(net, parts, ((0, 2), (1, 3))), True)
        for parts in (((1,), ()), ((), (0,)), ((1, 3), (0, 2)), ((0, 1), ()), ((),), ((0,),), ((), (), ()),
                      ((0,), (1,), ())):
            self.assertIs(is_continued(net, parts, ((0, 2), (1, 3))), False)
        for thing in ((), ((0, 2),), ((0, 2), (0, 2)), ((0, 2), (1,)), ((1, 3), (0, 2)), [(0, 2), (1, 3)],
                      ((0, 2), [1, 3]), ((0, 2), (3, 1)), ((0, 2), (1, 3), ()), ((0, 2), (True, 3)), None, net):
            self.assertIs(is_continued(net, ((0,), ()), thing), False)
        self.assertIs(is_continued(net, ((),), ((0, 1),)), True)

    def test_bent_packings(self):
        for net in rich_nets()[::4]:
            trees = packing(net, min(12, supply(net, every_link(net))))
            for at, tree in enumerate(trees):
                parts = trees[:at] + ((),) + trees[at + 1:]
                self.assertIs(is_continued(net, parts, trees), True)
                other = trees[:at] + (tree[1:],) + trees[at + 1:]
                self.assertIs(is_continued(net, parts, other), False)
                turned = trees[at:] + trees[:at]
                self.assertIs(is_continued(net, trees, turned), turned == trees)

    def test_is_continued_of_any_thing(self):
        net = Net(2, 0, ((1, 0), (1, 0), (1, 0), (0, 1)))
        self.assertIs(is_continued(net, ((),), ((3,),)), True)
        for thing in odd_things():
            self.assertIs(is_continued(net, ((),), thing), False)
            self.assertIs(is_continued(net, ((),), (thing,)), False)
            self.assertIs(is_continued(net, ((),), ((thing,),)), False)

    def test_no_parts(self):
        net = Net(3, 0, ((0, 1), (0, 2), (1, 2), (2, 1)))
        self.assertIs(is_packing(net, ((0, 1), (2, 3))), False)
        bent = [(), [], [()], [(0,)], ((0,), (0,)), ((0, 1), (1,)), ((2,),), ((3,),), ((2, 3),), ((0, 3),), ((1, 0),),
                ([0],), ((0,), [1]), ((4,),), ((False,),), ((0, True),), (0,), (None,), ((0,), None), ((0,), (2,)),
                ((),) * 13, None, net, (net,), "", {(): ()}, (((),),)]
        for thing in bent:
            self.assertRaises(NoParts, continued, net, thing)
            self.assertRaises(NoParts, is_continued, net, thing, ())
        net = Net(2, 0, ((1, 0),))
        for thing in odd_things():
            if thing != ((),):
                self.assertRaises(NoParts, continued, net, thing)
                self.assertRaises(NoParts, is_continued, net, thing, ())
            self.assertRaises(NoParts, continued, net, ((), thing))
            self.assertRaises(NoParts, continued, net, ((), (thing,)))

    def test_two_parts_may_not_share_a_link(self):
        net = Net(3, 0, ((0, 1), (0, 1), (0, 2), (0, 2), (1, 2)))
        self.assertRaises(NoParts, continued, net, ((0, 2), (1, 2)))
        self.assertRaises(NoParts, is_continued, net, ((0, 2), (1, 2)), ((0, 2), (1, 3)))
        self.judge(net, ((0, 2), (1,)), continued(net, ((0, 2), (1,))))


if __name__ == "__main__":
    unittest.main()
