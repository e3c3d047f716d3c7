import unittest

from sparetrees.errors import BadNet
from sparetrees.nets import Net, every_link
from tests.samples import line_net, odd_things


class NetTest(unittest.TestCase):

    def bad(self, part, many, root, links):
        with self.assertRaises(BadNet) as caught:
            Net(many, root, links)
        self.assertEqual(caught.exception.part, part)
        self.assertIs(caught.exception.part.__class__, part.__class__)

    def test_keeps_what_it_is_made_of(self):
        links = ((0, 1), (2, 1), (1, 2), (2, 0), (2, 0))
        net = Net(3, 2, links)
        self.assertEqual((net.many, net.root, net.links), (3, 2, links))
        self.assertEqual(sorted(vars(net)), ["links", "many", "root"])

    def test_how_many_places(self):
        for many in range(2, 11):
            self.assertEqual(Net(many, many - 1, ((many - 1, 0),)).many, many)
        for many in (1, 0, -1, -2, 11, 12, 10 ** 60 - 1):
            self.bad("many", many, 0, ())
        for many in odd_things():
            self.bad("many", many, 0, ())
        for many in (2.0, 3 + 0j, {2}, (2,), [2], "2", Net(2, 0, ())):
            self.bad("many", many, 0, ())

    def test_root(self):
        for many in (2, 3, 10):
            for root in range(many):
                self.assertEqual(Net(many, root, ()).root, root)
            for root in (many, many + 1, -1, -many, 10 ** 59):
                self.bad("root", many, root, ())
        for root in odd_things():
            self.bad("root", 10, root, ())
        for root in ((1,), [1], 1.0, Net(2, 0, ())):
            self.bad("root", 3, root, ())

    def test_how_many_links(self):
        self.assertEqual(Net(2, 0, ()).links, ())
        self.assertEqual(Net(2, 0, ((0, 1),) * 60).links, ((0, 1),) * 60)
        self.bad("links", 2, 0, ((0, 1),) * 61)
        self.bad("links", 2, 0, ((0, 0),) * 61)
        self.bad("links", 2, 0, [(0, 1)])
        self.bad("links", 2, 0, [])
        for links in odd_things():
            if not isinstance(links, tuple) or len(links) > 60:
                self.bad("links", 3, 0, links)

    def test_what_is_a_link(self):
        good = ((0, 1), (1, 2), (0, 1))
        bad = [
            (0, 0), (2, 2), (0, 3), (3, 0), (0, -1), (-1, 0), (0, 10 ** 59), [0, 1], (0,), (0, 1, 2), (),
            (True, 0), (0, True), (False, 1), (1, False), (True, False), ("0", 1), (0, "1"), (None, 1),
            (0, None), ((0,), (1,)), (0, (1,)), ([0], 1), "01", b"01", 1, None, range(2), {0: 1}, {},
            Net(2, 0, ()), (0, Net(2, 0, ())), ((0, 1),), (0, 1.0), frozenset((0, 1)),
        ]
        for link in bad:
            self.bad(0, 3, 0, (link,))
            self.bad(3, 3, 0, good + (link,) + good)
            self.bad(0, 3, 0, (link, (0, 0)))
            self.bad(59, 3, 0, ((0, 1),) * 59 + (link,))
        for link in odd_things():
            if link != (0, 1) and link != (1, 0) and link != (2, 1):
                self.bad(1, 3, 0, ((0, 1), link))

    def test_alike_links_and_links_to_the_root_are_let(self):
        net = Net(2, 0, ((0, 1), (0, 1), (1, 0), (1, 0)))
        self.assertEqual(net.links, ((0, 1), (0, 1), (1, 0), (1, 0)))

    def test_which_comes_first(self):
        self.bad("many", 1, 5, [])
        self.bad("many", True, True, True)
        self.bad("many", 11, 11, ((0, 0),))
        self.bad("root", 3, 3, [])
        self.bad("root", 3, False, ((0, 0),))
        self.bad("links", 3, 0, [(0, 0)])
        self.bad(1, 3, 0, ((0, 1), (3, 0), (0, 0)))

    def test_equality(self):
        net = Net(3, 0, ((0, 1), (1, 2)))
        self.assertTrue(net == net)
        self.assertTrue(net == Net(3, 0, ((0, 1), (1, 2))))
        self.assertFalse(net != Net(3, 0, ((0, 1), (1, 2))))
        for other in (Net(4, 0, ((0, 1), (1, 2))), Net(3, 1, ((0, 1), (1, 2))), Net(3, 0, ((0, 1),)),
                      Net(3, 0, ((1, 2), (0, 1))), Net(3, 0, ((0, 1), (1, 2), (1, 2))), Net(3, 0, ())):
            self.assertFalse(net == other)
            self.assertTrue(net != other)

    def test_equal_to_nothing_of_another_kind(self):
        net = Net(3, 0, ((0, 1), (1, 2)))

        class Alike:
            many, root, links = 3, 0, ((0, 1), (1, 2))

        for other in odd_things() + [Alike(), (3, 0, ((0, 1), (1, 2))), ((0, 1), (1, 2)), 3, BadNet(0)]:
            self.assertIs(net == other, False)
            self.assertIs(other == net, False)
            self.assertIs(net != other, True)

    def test_nothing_is_changed(self):
        net = line_net()
        every_link(net)
        self.assertEqual(net, line_net())


if __name__ == "__main__":
    unittest.main()
