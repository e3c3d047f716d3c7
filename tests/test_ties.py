import random
import unittest

from sparetrees.errors import BadWeb, Crossed, NoNumber, NoParting, NoPlace, NoSpanners, NoWeb
from sparetrees.nets import Net
from sparetrees.packing import is_packing
from sparetrees.ties import (
    Web, are_spanners, crossing, is_crossed, is_spanning, led_from, net_of, spanners, strength)
from tests.samples import (
    crossed_apart, no_link_twice, odd_things, partings_apart, small_webs, spans_apart, subsets, thin_partings,
    tree_apart, web_of_spanners, webs)

NO_COUNTS = (11, 12, 60, -1, True, False, None, "1", (1,), [1], 10 ** 59, -(10 ** 59), Net(2, 0, ()), Web(2, ()))
NOT_WEBS = [0, 1, (), (3, ()), Net(3, 0, ()), Net(3, 0, ((0, 1),))]


def whole_web(many):
    return Web(many, tuple((one, other) for other in range(many) for one in range(other)))


def ring_web(many, times):
    pairs = [(place, place + 1) for place in range(many - 1)] + [(0, many - 1)]
    return Web(many, tuple(pairs) * times)


def e05_web():
    return Web(3, ((0, 1), (0, 1), (0, 2), (1, 2), (1, 2), (0, 2)))


class WebTest(unittest.TestCase):

    def bad(self, part, many, ties):
        with self.assertRaises(BadWeb) as caught:
            Web(many, ties)
        self.assertEqual(caught.exception.part, part)
        self.assertIs(caught.exception.part.__class__, part.__class__)

    def test_keeps_what_it_is_made_of(self):
        ties = ((0, 1), (1, 2), (0, 2), (0, 2))
        web = Web(3, ties)
        self.assertEqual((web.many, web.ties), (3, ties))
        self.assertEqual(sorted(vars(web)), ["many", "ties"])

    def test_how_many_places(self):
        for many in range(2, 10):
            self.assertEqual(Web(many, ((0, many - 1),)).many, many)
        for many in (1, 0, -1, -2, 10, 11, 10 ** 60 - 1, 2.0, {2}, (2,), [2], "2", Web(2, ())):
            self.bad("many", many, ())
        for many in odd_things():
            self.bad("many", many, ())

    def test_how_many_ties(self):
        self.assertEqual(Web(2, ()).ties, ())
        self.assertEqual(Web(2, ((0, 1),) * 30).ties, ((0, 1),) * 30)
        self.bad("ties", 2, ((0, 1),) * 31)
        self.bad("ties", 2, ((0, 0),) * 31)
        self.bad("ties", 2, [(0, 1)])
        self.bad("ties", 2, [])
        for ties in odd_things():
            if not isinstance(ties, tuple) or len(ties) > 30:
                self.bad("ties", 3, ties)

    def test_what_is_a_tie(self):
        good = ((0, 1), (1, 2), (0, 1))
        bad = [
            (1, 0), (2, 1), (0, 0), (2, 2), (0, 3), (3, 4), (0, -1), (-1, 0), (-1, 2), (0, 10 ** 59), [0, 1], (0,),
            (0, 1, 2), (), (0, True), (False, 1), (False, True), ("0", 1), (0, "1"), (None, 1), (0, None),
            ((0,), (1,)), (0, (1,)), ([0], 1), "01", b"01", 1, None, range(2), {0: 1}, {}, Web(2, ()),
            (0, Web(2, ())), ((0, 1),), (0, 1.0), frozenset((0, 1)),
        ]
        for tie in bad:
            self.bad(0, 3, (tie,))
            self.bad(3, 3, good + (tie,) + good)
            self.bad(0, 3, (tie, (0, 0)))
            self.bad(29, 3, ((0, 1),) * 29 + (tie,))
        for tie in odd_things():
            self.bad(1, 3, ((0, 1), tie))
        self.bad(0, 9, ((8, 9),))
        self.assertEqual(Web(9, ((7, 8),)).ties, ((7, 8),))

    def test_which_comes_first(self):
        self.bad("many", 1, [])
        self.bad("many", True, ((1, 0),))
        self.bad("many", 10, ((0, 0),) * 31)
        self.bad("ties", 3, [(0, 0)])
        self.bad("ties", 2, ((0, 1),) * 30 + ((1, 0),))
        self.bad(1, 3, ((0, 1), (1, 0), (0, 0)))

    def test_equality(self):
        web = Web(3, ((0, 1), (1, 2)))
        self.assertTrue(web == web)
        self.assertTrue(web == Web(3, ((0, 1), (1, 2))))
        self.assertFalse(web != Web(3, ((0, 1), (1, 2))))
        for other in (Web(4, ((0, 1), (1, 2))), Web(3, ((0, 1),)), Web(3, ((1, 2), (0, 1))), Web(3, ()),
                      Web(3, ((0, 1), (1, 2), (1, 2))), Net(3, 0, ((0, 1), (1, 2)))):
            self.assertFalse(web == other)
            self.assertTrue(web != other)

    def test_equal_to_nothing_of_another_kind(self):
        web = Web(3, ((0, 1), (1, 2)))

        class Alike:
            many, ties = 3, ((0, 1), (1, 2))

        for other in odd_things() + [Alike(), (3, ((0, 1), (1, 2))), ((0, 1), (1, 2)), 3, BadWeb(0)]:
            self.assertIs(web == other, False)
            self.assertIs(other == web, False)
            self.assertIs(web != other, True)


class SpanningTest(unittest.TestCase):

    def test_told_ones(self):
        web = Web(4, ((0, 1), (1, 2), (0, 2), (2, 3), (0, 1)))
        for lot in ((0, 1, 3), (0, 2, 3), (1, 2, 3), (1, 3, 4), (2, 3, 4)):
            self.assertIs(is_spanning(web, lot), True)
        bent = [(), (0, 1), (0, 3), (0, 1, 2), (0, 3, 4), (0, 1, 4), (0, 1, 2, 3), (0, 1, 3, 4), (1, 0, 3), (0, 0, 3),
                [0, 1, 3], (False, 1, 3), (0, True, 3), (0, 1, 5), (-5, 1, 3), (0, 1, "3"), ((0, 1, 3),),
                {0: 0, 1: 1, 3: 3}, None, web, range(3)]
        for thing in bent:
            self.assertIs(is_spanning(web, thing), False, thing)

    def test_all_lots_of_small_webs(self):
        chance = random.Random(23)
        for web in small_webs(chance, 30, 5, 8) + [whole_web(4)]:
            for lot in subsets(range(len(web.ties))):
                self.assertIs(is_spanning(web, lot), spans_apart(web, lot))

    def test_pairs_of_lots(self):
        web = e05_web()
        lots = subsets(range(6))
        for one in lots:
            for other in lots:
                right = spans_apart(web, one) and spans_apart(web, other) and not set(one) & set(other)
                self.assertIs(are_spanners(web, (one, other)), right)

    def test_told_spanners(self):
        web = e05_web()
        for told in ((), ((0, 2),), ((0, 2), (1, 3), (4, 5)), ((4, 5), (1, 3), (0, 2)), ((1, 2), (0, 3))):
            self.assertIs(are_spanners(web, told), True)
        bent = [[], [(0, 2)], ([0, 2],), (0, 2), ((0, 2), (0, 3)), ((0, 2), (0, 2)), ((0, 1),), ((0, 2), ()), ((),),
                ((2, 0),), ((0, 2, 3),), ((0,),), ((0, 2), None), ((0, 6),), (((0, 2),),), {(0, 2): (1, 3)}, {},
                "", None, web, (web,), ((False, 2),), ((0, 2), (True, 3))]
        for thing in bent:
            self.assertIs(are_spanners(web, thing), False, thing)

    def test_any_thing(self):
        web = Web(3, ((0, 1), (0, 1), (0, 1), (0, 2)))
        self.assertIs(is_spanning(web, (2, 3)), True)
        for thing in odd_things():
            self.assertIs(is_spanning(web, thing), False)
            self.assertIs(is_spanning(web, (2, thing)), False)
            self.assertIs(are_spanners(web, thing), False)
            self.assertIs(are_spanners(web, (thing,)), False)
            self.assertIs(are_spanners(web, ((2, 3), thing)), False)
        self.assertIs(are_spanners(web, ((2, 3),) * 10000), False)


class PartingTest(unittest.TestCase):

    def test_crossing(self):
        web = e05_web()
        self.assertEqual(crossing(web, ((0,), (1, 2))), (0, 1, 2, 5))
        self.assertEqual(crossing(web, ((0, 1), (2,))), (2, 3, 4, 5))
        self.assertEqual(crossing(web, ((0, 2), (1,))), (0, 1, 3, 4))
        self.assertEqual(crossing(web, ((0,), (1,), (2,))), (0, 1, 2, 3, 4, 5))
        self.assertEqual(crossing(Web(2, ()), ((0,), (1,))), ())

    def test_all_partings(self):
        for web in webs():
            for parting in partings_apart(web.many)[::7]:
                found = crossing(web, parting)
                self.assertIs(found.__class__, tuple)
                self.assertEqual(found, crossed_apart(web, parting))
                for many in (0, 1, len(found) // (len(parting) - 1), 10):
                    if many <= 10:
                        expected = len(found) < many * (len(parting) - 1)
                        self.assertIs(is_crossed(web, many, parting), expected)

    def test_is_crossed_at_the_edge(self):
        web = e05_web()
        self.assertIs(is_crossed(web, 4, ((0,), (1,), (2,))), True)
        self.assertIs(is_crossed(web, 3, ((0,), (1,), (2,))), False)
        self.assertIs(is_crossed(web, 4, ((0,), (1, 2))), False)
        self.assertIs(is_crossed(web, 5, ((0,), (1, 2))), True)
        self.assertIs(is_crossed(Web(2, ()), 0, ((0,), (1,))), False)
        self.assertIs(is_crossed(Web(2, ()), 1, ((0,), (1,))), True)
        self.assertIs(is_crossed(Web(2, ((0, 1),) * 9), 10, ((0,), (1,))), True)
        self.assertIs(is_crossed(Web(2, ((0, 1),) * 10), 10, ((0,), (1,))), False)

    BENT = [
        (), ((0, 1, 2),), ((1, 2), (0,)), ((0,), (2, 1)), ((0,), (1,)), ((0,), (2,)), ((0, 1), (1, 2)),
        ((0,), (0, 1, 2)), ((0,), (1, 2), ()), ((), (0,), (1, 2)), ((), (0, 1, 2)), ((0,), (1, 3)),
        ((0,), (1, 2), (3,)), ((-1, 0), (1, 2)), [(0,), (1, 2)], ([0], (1, 2)), ((0,), [1, 2]), ((0,), (2,), (1,)),
        ((0,), (True, 2)), ((False,), (1, 2)), ((0, 0), (1, 2)), ((0,), (1, 1, 2)), ((0,), (1, "2")), (0, (1, 2)),
        ((0,), None, (1, 2)), ((0,), ((1, 2),)), (((0,), (1, 2)),), {(0,): (1, 2)}, None, "", 0, Web(3, ()),
        (Web(3, ()), (1, 2)), ((0,), (0,), (1, 2)), ((0,), (1,), (1, 2)), ((0,), (1, 2), (1, 2)),
    ]

    def test_bent_partings(self):
        web = Web(3, ())
        for parting in (((0,), (1, 2)), ((0, 1), (2,)), ((0, 2), (1,)), ((0,), (1,), (2,))):
            self.assertIs(is_crossed(web, 10, parting), True)
            self.assertEqual(crossing(web, parting), ())
        for thing in self.BENT + odd_things():
            self.assertIs(is_crossed(web, 10, thing), False, thing)
            self.assertRaises(NoParting, crossing, web, thing)

    def test_any_thing_within(self):
        web = Web(3, ())
        for thing in odd_things():
            for parting in ((thing,), ((0,), thing), ((0,), thing, (1, 2)), ((0,), (1, thing)), ((thing,), (1, 2))):
                self.assertIs(is_crossed(web, 10, parting), False)
                self.assertRaises(NoParting, crossing, web, parting)


class SpannersTest(unittest.TestCase):

    def judge(self, web, many, told):
        self.assertIs(told.__class__, tuple)
        self.assertEqual(len(told), many)
        for lot in told:
            self.assertIs(lot.__class__, tuple)
            self.assertEqual(list(lot), sorted(set(lot)))
            self.assertTrue(spans_apart(web, lot))
        self.assertTrue(no_link_twice(told))
        self.assertIs(are_spanners(web, told), True)

    def strength_apart(self, web):
        return min(len(crossed_apart(web, parting)) // (len(parting) - 1) for parting in partings_apart(web.many))

    def barred(self, web, many, first):
        with self.assertRaises(Crossed) as caught:
            spanners(web, many)
        self.assertEqual(caught.exception.parting, first)
        self.assertIs(is_crossed(web, many, first), True)

    def test_as_many_as_there_can_be_and_one_more(self):
        chance = random.Random(24)
        for web in [web for web in webs() if web.many < 8] + small_webs(chance, 60, 6, 15):
            most = self.strength_apart(web)
            self.assertEqual(strength(web), most)
            for many in {0, 1, most - 1, most}:
                if 0 <= many <= min(10, most):
                    self.judge(web, many, spanners(web, many))
            if most < 10:
                self.barred(web, most + 1, thin_partings(web, most + 1)[0])
                self.barred(web, 10, thin_partings(web, 10)[0])

    def test_great_webs(self):
        for web in [web for web in webs() if web.many >= 8][::2]:
            most = self.strength_apart(web)
            self.assertEqual(strength(web), most)
            self.judge(web, most, spanners(web, most))
            self.barred(web, most + 1, thin_partings(web, most + 1)[0])

    def test_webs_made_of_spanners(self):
        chance = random.Random(25)
        for _ in range(80):
            many = chance.randrange(2, 10)
            most = chance.randrange(1, min(10, 30 // (many - 1)) + 1)
            web = web_of_spanners(chance, many, most, chance.randrange(30 - most * (many - 1) + 1))
            self.judge(web, most, spanners(web, most))

    def test_all_spanners_of_small_webs(self):
        chance = random.Random(26)
        for web in small_webs(chance, 60, 4, 8):
            lots = [lot for lot in subsets(range(len(web.ties))) if spans_apart(web, lot)]
            two = any(not set(one) & set(other) for one in lots for other in lots)
            self.assertEqual(strength(web) >= 1, len(lots) > 0)
            self.assertEqual(strength(web) >= 2, two)

    def test_the_first_parting_is_told(self):
        # Of fewer lots first, though the one of all places alone is crossed by fewest for each lot.
        web = Web(4, ((0, 1), (1, 2), (2, 3), (0, 3), (0, 2)))
        self.barred(web, 2, ((0,), (1,), (2,), (3,)))
        self.barred(web, 3, ((0, 1, 2), (3,)))
        self.barred(web, 4, ((0,), (1, 2, 3)))
        self.barred(Web(4, ()), 1, ((0,), (1, 2, 3)))
        self.barred(Web(3, ((0, 1),)), 1, ((0, 1), (2,)))
        self.barred(Web(3, ((1, 2),)), 1, ((0,), (1, 2)))
        self.barred(Web(5, ((0, 1), (2, 3), (3, 4), (2, 4))), 1, ((0, 1), (2, 3, 4)))
        self.barred(Web(9, ((0, 8),) * 30), 1, ((0,  1, 2, 3, 4, 5, 6, 8), (7,)))

    def test_none_ten_and_eleven(self):
        self.assertEqual(spanners(Web(9, ()), 0), ())
        web = Web(2, ((0, 1),) * 10)
        self.judge(web, 10, spanners(web, 10))
        self.barred(Web(2, ((0, 1),) * 9), 10, ((0,), (1,)))
        web = Web(4, ((0, 1), (1, 2), (2, 3)) * 10)
        self.judge(web, 10, spanners(web, 10))
        self.assertRaises(NoNumber, spanners, web, 11)

    def test_ties_have_to_be_exchanged(self):
        # Taken one by one, the first spanner would be 0, 1, 2, and what is left does not span.
        web = Web(4, ((0, 1), (0, 2), (0, 3), (1, 2), (2, 3), (1, 2)))
        self.assertEqual(self.strength_apart(web), strength(web))
        web = Web(4, ((0, 1), (1, 2), (0, 1), (2, 3), (1, 3), (0, 2)))
        self.judge(web, 2, spanners(web, 2))

    def test_strength_by_hand(self):
        self.assertEqual([strength(whole_web(many)) for many in range(2, 9)], [1, 1, 2, 2, 3, 3, 4])
        self.assertEqual([strength(ring_web(9, times)) for times in (1, 2, 3)], [1, 2, 3])
        self.assertEqual(strength(Web(9, ring_web(9, 3).ties + ((0, 1), (1, 2), (0, 2)))), 3)
        self.assertEqual(strength(Web(2, ((0, 1),) * 30)), 30)
        self.assertEqual(strength(Web(3, ((0, 1), (1, 2)) * 15)), 15)
        self.assertEqual(strength(Web(3, ((0, 1),) * 28 + ((1, 2),) * 2)), 2)
        self.assertEqual(strength(Web(9, tuple((place, place + 1) for place in range(8)))), 1)
        # A hub with a rim of eight.
        rim = tuple((place, place + 1) for place in range(1, 8)) + ((1, 8),)
        self.assertEqual(strength(Web(9, tuple((0, place) for place in range(1, 9)) + rim)), 2)
        # Two thick halves that one tie joins, and one place that nothing joins.
        halves = whole_web(4).ties + tuple((one + 4, other + 4) for one, other in whole_web(4).ties)
        self.assertEqual(strength(Web(8, halves + ((0, 7),))), 1)
        self.assertEqual(strength(Web(8, halves)), 0)
        self.assertEqual(strength(Web(9, whole_web(8).ties)), 0)
        self.assertEqual(strength(Web(2, ())), 0)


class LedFromTest(unittest.TestCase):

    def test_net_of(self):
        web = Web(4, ((0, 1), (1, 3), (2, 3), (0, 1)))
        links = ((0, 1), (1, 0), (1, 3), (3, 1), (2, 3), (3, 2), (0, 1), (1, 0))
        for place in range(4):
            self.assertEqual(net_of(web, place), Net(4, place, links))
        self.assertEqual(net_of(Web(2, ()), 1), Net(2, 1, ()))
        self.assertEqual(len(net_of(Web(9, ((0, 8),) * 30), 8).links), 60)

    def test_e05(self):
        self.assertEqual(led_from(e05_web(), ((0, 2),), 1), ((1, 4),))

    def test_each_place_as_the_source(self):
        for web in webs():
            told = spanners(web, min(10, strength(web)))
            for place in range(web.many):
                net = net_of(web, place)
                trees = led_from(web, told, place)
                self.assertIs(trees.__class__, tuple)
                self.assertIs(is_packing(net, trees), True)
                for lot, tree in zip(told, trees):
                    self.assertTrue(tree_apart(net, tree))
                    self.assertEqual(tuple(sorted(link // 2 for link in tree)), lot)
                    self.assertEqual(list(tree), sorted(tree))
                self.assertEqual(len(trees), len(told))

    def test_none(self):
        self.assertEqual(led_from(Web(2, ()), (), 0), ())

    def test_no_spanners(self):
        web = Web(3, ((0, 1), (0, 1), (0, 1), (0, 2), (1, 2)))
        self.assertEqual(led_from(web, ((2, 3),), 2), ((4, 7),))
        bent = [[], [(2, 3)], ((2, 3), (2, 4)), ((0, 1),), ((3, 2),), ((2, 3), ()), (2, 3), None, web, ((2, 5),)]
        for thing in bent + odd_things():
            self.assertRaises(NoSpanners, led_from, web, thing, 0)
            self.assertRaises(NoSpanners, led_from, web, thing, "no place")


class WrongArgumentsTest(unittest.TestCase):

    def test_no_web(self):
        for thing in odd_things() + NOT_WEBS:
            self.assertRaises(NoWeb, is_spanning, thing, ())
            self.assertRaises(NoWeb, are_spanners, thing, ())
            self.assertRaises(NoWeb, is_crossed, thing, "no number", ())
            self.assertRaises(NoWeb, crossing, thing, "no parting")
            self.assertRaises(NoWeb, spanners, thing, "no number")
            self.assertRaises(NoWeb, led_from, thing, "no spanners", "no place")
            self.assertRaises(NoWeb, net_of, thing, "no place")
            self.assertRaises(NoWeb, strength, thing)

    def test_no_number(self):
        web = e05_web()
        for thing in list(NO_COUNTS) + odd_things():
            self.assertRaises(NoNumber, spanners, web, thing)
            self.assertRaises(NoNumber, is_crossed, web, thing, ((0,), (1, 2)))
            self.assertRaises(NoNumber, is_crossed, web, thing, "no parting")
        for many in range(11):
            self.assertIs(is_crossed(web, many, "no parting"), False)

    def test_no_place(self):
        web = e05_web()
        for thing in odd_things() + [3, 4, 9, -3, (0,), [0], web]:
            self.assertRaises(NoPlace, net_of, web, thing)
            self.assertRaises(NoPlace, led_from, web, ((0, 2),), thing)
            self.assertRaises(NoPlace, led_from, web, (), thing)

    def test_nothing_is_changed(self):
        web = e05_web()
        spanners(web, 3)
        self.assertRaises(Crossed, spanners, web, 4)
        self.assertEqual(spanners(web, 2), spanners(e05_web(), 2))
        self.assertEqual(web, e05_web())


if __name__ == "__main__":
    unittest.main()
