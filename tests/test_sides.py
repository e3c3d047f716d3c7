import unittest

from sparetrees.errors import NoLot, NoNet, NoNumber, NoSide
from sparetrees.nets import Net, bar, entering, every_link, is_bar, supply, tight_sides
from tests.samples import count_of, enters, going_through, line_net, nets_and_lots, odd_things

NUMBERS = (0, 1, 2, 3, 5, 30, 59, 60)
NO_NUMBERS = (61, 62, 1000, -1, True, False, None, "1", (1,), [1], 10 ** 59, Net(2, 0, ()))


class SidesTest(unittest.TestCase):

    def test_every_link(self):
        self.assertEqual(every_link(Net(2, 0, ())), ())
        self.assertEqual(every_link(Net(2, 1, ((0, 1),))), (0,))
        self.assertEqual(every_link(Net(2, 1, ((0, 1),) * 60)), tuple(range(60)))
        self.assertEqual(every_link(line_net()), (0, 1, 2, 3, 4, 5, 6, 7))

    def test_entering(self):
        net = line_net()
        self.assertEqual(entering(net, every_link(net), (1,)), (0, 1, 6, 7))
        self.assertEqual(entering(net, every_link(net), (1, 2)), (0, 1, 7))
        self.assertEqual(entering(net, every_link(net), (1, 2, 3)), (0, 1))
        self.assertEqual(entering(net, (1, 2, 7), (1,)), (1, 7))
        self.assertEqual(entering(net, (), (1,)), ())
        for net, lot in nets_and_lots():
            for side in going_through(net):
                expected = tuple(link for link in lot if enters(net, link, side))
                self.assertEqual(entering(net, lot, side), expected)

    def test_supply(self):
        self.assertEqual(supply(Net(2, 0, ()), ()), 0)
        self.assertEqual(supply(Net(2, 0, ((0, 1),) * 60), tuple(range(60))), 60)
        self.assertEqual(supply(line_net(), every_link(line_net())), 1)
        for net, lot in nets_and_lots():
            expected = min(count_of(net, lot, side) for side in going_through(net))
            self.assertEqual(supply(net, lot), expected)

    def test_bar(self):
        for net, lot in nets_and_lots():
            least = supply(net, lot)
            for many in set(NUMBERS) | {least, min(60, least + 1)}:
                few = [side for side in going_through(net) if count_of(net, lot, side) < many]
                expected = few[0] if few else None
                self.assertEqual(bar(net, lot, many), expected)

    def test_bar_takes_fewest_first(self):
        net = Net(4, 1, ((1, 0), (1, 0), (0, 2), (0, 3), (2, 3), (3, 2)))
        lot = every_link(net)
        self.assertIsNone(bar(net, lot, 2))
        self.assertEqual(bar(net, lot, 3), (0,))
        # Here (0, 2, 3) comes ahead of (3,) by the order of tuples alone.
        net = Net(4, 1, ((1, 0), (1, 0), (0, 2), (0, 2), (2, 3)))
        self.assertEqual(bar(net, every_link(net), 2), (3,))
        # And (0, 2), which is no tight side, ahead of (2, 3).
        net = Net(4, 1, ((1, 2), (1, 0), (1, 0), (2, 3), (3, 2)))
        self.assertEqual(bar(net, every_link(net), 2), (3,))
        net = Net(4, 1, ((1, 2), (1, 0), (1, 0), (2, 3), (2, 3), (3, 2)))
        self.assertEqual(bar(net, every_link(net), 2), (2, 3))
        # Where several of as many places are, the first by the order of tuples is told.
        self.assertEqual(bar(Net(4, 1, ()), (), 1), (0,))
        self.assertEqual(bar(Net(3, 0, ()), (), 60), (1,))

    def test_bar_tells_none(self):
        for net, lot in nets_and_lots():
            self.assertIsNone(bar(net, lot, 0))
            self.assertIsNone(bar(net, lot, supply(net, lot)))
        net = Net(2, 0, ((0, 1),) * 60)
        self.assertIsNone(bar(net, every_link(net), 60))
        self.assertEqual(bar(net, tuple(range(59)), 60), (1,))

    def test_is_bar(self):
        for net, lot in nets_and_lots():
            for side in going_through(net)[:60]:
                count = count_of(net, lot, side)
                for many in (0, count, min(60, count + 1), 60):
                    self.assertIs(is_bar(net, lot, many, side), count < many)

    def test_is_bar_of_what_is_no_side(self):
        net = Net(4, 1, ())
        self.assertIs(is_bar(net, (), 60, (0, 2, 3)), True)
        for thing in [(), (1,), (0, 1), (0, 1, 2, 3), (1, 2), (2, 0), (0, 0), (0, 4), (4,), (-1,), [0],
                      [0, 2], (0, True), (0, "2"), (0, [2]), 0, None, {0: 0}, "0", Net(2, 0, ())]:
            self.assertIs(is_bar(net, (), 60, thing), False)
        net = Net(3, 0, ())
        for thing in odd_things():
            self.assertIs(is_bar(net, (), 60, thing), False)

    def test_tight_sides(self):
        self.assertEqual(tight_sides(Net(3, 1, ()), ()), [(0,), (2,), (0, 2)])
        self.assertEqual(tight_sides(line_net(), every_link(line_net())), [(3,)])
        for net, lot in nets_and_lots():
            least = min(count_of(net, lot, side) for side in going_through(net))
            expected = [side for side in going_through(net) if count_of(net, lot, side) == least]
            self.assertEqual(tight_sides(net, lot), expected)

    def test_step_of_sides(self):
        for net, lot in nets_and_lots():
            found = tight_sides(net, lot)
            kept = set(found)
            for one in found[:40]:
                for other in found[:40]:
                    both = tuple(sorted(set(one) & set(other)))
                    if both:
                        self.assertIn(both, kept)
                        self.assertIn(tuple(sorted(set(one) | set(other))), kept)

    def test_lists_are_new(self):
        net = Net(3, 1, ())
        first = tight_sides(net, ())
        first.append("more")
        self.assertEqual(tight_sides(net, ()), [(0,), (2,), (0, 2)])

    def test_results_are_of_the_told_kinds(self):
        net = line_net()
        self.assertIs(entering(net, (0,), (1,)).__class__, tuple)
        self.assertIs(every_link(net).__class__, tuple)
        self.assertIs(supply(net, ()).__class__, int)
        self.assertIs(bar(net, (), 1).__class__, tuple)
        self.assertIs(tight_sides(net, ()).__class__, list)


class WrongArgumentsTest(unittest.TestCase):

    def calls(self, net, lot):
        return [
            lambda: entering(net, lot, "no side"), lambda: supply(net, lot),
            lambda: bar(net, lot, "no number"), lambda: is_bar(net, lot, "no number", (1,)),
            lambda: tight_sides(net, lot),
        ]

    def test_no_net(self):
        for thing in odd_things() + [0, 1, (), (3, 0, ())]:
            self.assertRaises(NoNet, every_link, thing)
            for call in self.calls(thing, "no lot"):
                self.assertRaises(NoNet, call)

    def test_no_lot(self):
        net = line_net()
        for thing in [[0, 1], [], 0, None, (1, 0), (0, 0), (0, 1, 1), (7, 8), (8,), (-1, 0), (True,),
                      (0, True), (False, 1), (0, (1,)), ("0",), (0, None), {0: 1}, range(2), net]:
            for call in self.calls(net, thing):
                self.assertRaises(NoLot, call)
        for thing in odd_things():
            for call in self.calls(Net(2, 0, ((0, 1),)), thing):
                self.assertRaises(NoLot, call)

    def test_no_side(self):
        net = Net(3, 1, ())
        for thing in [(), (1,), (0, 1), (2, 0), (3,), (0, 3), [0], [2], (0, 0), (True,), (False,), 0, net]:
            self.assertRaises(NoSide, entering, net, (), thing)
        net = Net(3, 0, ())
        for thing in odd_things():
            self.assertRaises(NoSide, entering, net, (), thing)

    def test_no_number(self):
        net = line_net()
        for thing in list(NO_NUMBERS) + odd_things():
            self.assertRaises(NoNumber, bar, net, (), thing)
            self.assertRaises(NoNumber, is_bar, net, (), thing, (1,))
            self.assertRaises(NoNumber, is_bar, net, (), thing, "no side")
        for number in NUMBERS:
            bar(net, (), number)
            is_bar(net, (), number, None)


if __name__ == "__main__":
    unittest.main()
