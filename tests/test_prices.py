import random
import unittest

from sparetrees.errors import Crossed, Crowded, NoLot, NoNumber, NoPrices, NotParted, NoTie, NoWeb
from sparetrees.nets import Net
from sparetrees.prices import can_part, cheapest, closed_by, is_cheapest, parted
from sparetrees.ties import Web, every_tie, spanners, strength
from tests.samples import (
    going_through_lots, no_link_twice, odd_things, parts_apart, pieces, random_web, small_webs, subsets,
    thin_partings, web_of_spanners, webs)

NO_COUNTS = (0, 11, 12, 60, -1, True, False, None, "1", (1,), [1], 10 ** 59, -(10 ** 59), Net(2, 0, ()), Web(2, ()))
NOT_WEBS = [0, 1, (), (3, ()), Net(3, 0, ()), Net(3, 0, ((0, 1),))]
NO_LOTS = [[0, 1], [], 0, None, (1, 0), (0, 0), (6,), (0, 6), (-1,), (True,), (0, True), ("0",), (0, None), ((0,),),
           {0: 1}, range(2), Web(2, ())]


def e05_web():
    return Web(3, ((0, 1), (0, 1), (0, 2), (1, 2), (1, 2), (0, 2)))


def between(web, lot, places):
    return len([tie for tie in lot if web.ties[tie][0] in places and web.ties[tie][1] in places])


def crowded(web, many, lot):
    """The lots of places between which more ties lie than can be parted, fewest first."""
    return [places for places in going_through_lots(web.many)
            if between(web, lot, places) > many * (len(places) - 1)]


def webs_and_lots():
    """Webs with some lots of their ties."""
    chance = random.Random(40)
    found = []
    for web in webs():
        ties = range(len(web.ties))
        for share in (20, 50, 80, 100):
            found.append((web, tuple(tie for tie in ties if chance.randrange(100) < share)))
    return found


class PartedTest(unittest.TestCase):

    def judge(self, web, many, lot, told):
        self.assertIs(told.__class__, tuple)
        self.assertEqual(len(told), many)
        for part in told:
            self.assertIs(part.__class__, tuple)
            self.assertEqual(list(part), sorted(part))
            self.assertEqual(pieces(web, part), web.many - len(part))
        self.assertTrue(no_link_twice(told))
        self.assertEqual(tuple(sorted(tie for part in told for tie in part)), lot)

    def check(self, web, many, lot):
        """Whether a lot can be parted, told lots or a crowded lot of places being the papers of it."""
        found = can_part(web, many, lot)
        if found:
            self.assertIs(found, True)
            self.judge(web, many, lot, parted(web, many, lot))
        else:
            self.assertIs(found, False)
            with self.assertRaises(Crowded) as caught:
                parted(web, many, lot)
            self.assertEqual(caught.exception.lot, crowded(web, many, lot)[0])
        return found

    def test_all_lots_of_small_webs(self):
        chance = random.Random(41)
        found = []
        for web in small_webs(chance, 30, 4, 8):
            for lot in subsets(range(len(web.ties))):
                for many in (1, 2, 3):
                    found.append(self.check(web, many, lot))
                    self.assertEqual(found[-1], parts_apart(web, many, lot))
        self.assertGreater(min(found.count(True), found.count(False)), 400)

    def test_great_webs(self):
        found = []
        for web, lot in webs_and_lots():
            for many in (1, 2, 3, 5, 10):
                found.append(self.check(web, many, lot))
                self.assertEqual(found[-1], not crowded(web, many, lot))
        self.assertGreater(min(found.count(True), found.count(False)), 100)

    def test_lots_that_fill_all_parts(self):
        chance = random.Random(42)
        for _ in range(60):
            many = chance.randrange(2, 10)
            most = chance.randrange(1, min(10, 30 // (many - 1)) + 1)
            web = web_of_spanners(chance, many, most, 0)
            self.assertTrue(self.check(web, most, every_tie(web)))
            if most > 1:
                self.assertFalse(self.check(web, most - 1, every_tie(web)))

    def test_told_lots(self):
        web = e05_web()
        self.assertIs(can_part(web, 1, ()), True)
        self.assertEqual(parted(web, 3, ()), ((), (), ()))
        self.assertIs(can_part(web, 2, (0, 1, 2, 3)), True)
        self.assertIs(can_part(web, 1, (0, 2)), True)
        self.assertIs(can_part(web, 1, (0, 1)), False)
        self.assertIs(can_part(web, 1, (0, 2, 3)), False)
        self.assertIs(can_part(web, 2, (0, 1, 2, 3, 4)), False)
        self.assertIs(can_part(web, 3, (0, 1, 2, 3, 4, 5)), True)
        web = Web(2, ((0, 1),) * 11)
        self.judge(web, 10, tuple(range(10)), parted(web, 10, tuple(range(10))))
        self.assertIs(can_part(web, 10, tuple(range(11))), False)

    def test_the_first_crowded_lot_is_told(self):
        web = Web(4, ((0, 1), (1, 2), (0, 2), (2, 3), (2, 3), (0, 3)))
        for many, lot, places in ((1, (0, 1, 2, 3, 4), (2, 3)), (1, (0, 1, 2, 3), (0, 1, 2)),
                                  (1, (0, 1, 3, 5), (0, 1, 2, 3)), (1, (0, 1, 2, 3, 5), (0, 1, 2))):
            with self.assertRaises(Crowded) as caught:
                parted(web, many, lot)
            self.assertEqual(caught.exception.lot, places)
        with self.assertRaises(Crowded) as caught:
            parted(Web(3, ((1, 2),) * 3 + ((0, 2),) * 3), 2, (0, 1, 2, 3, 4, 5))
        self.assertEqual(caught.exception.lot, (0, 2))


class ClosedByTest(unittest.TestCase):

    def check(self, web, many, lot, tie):
        found = closed_by(web, many, lot, tie)
        both = tuple(sorted(lot + (tie,)))
        if found is None:
            self.assertEqual(crowded(web, many, both), [])
        else:
            self.assertIs(found.__class__, tuple)
            self.assertEqual(list(found), sorted(set(found)))
            self.assertIn(tie, found)
            self.assertTrue(set(found) <= set(both))
            self.assertTrue(crowded(web, many, found))
            for other in found:
                self.assertEqual(crowded(web, many, tuple(kept for kept in found if kept != other)), [])
        return found

    def test_small_webs(self):
        chance = random.Random(43)
        seen = []
        for web in small_webs(chance, 40, 4, 8):
            for lot in subsets(range(len(web.ties)))[::3]:
                for many in (1, 2):
                    if parts_apart(web, many, lot):
                        for tie in set(range(len(web.ties))) - set(lot):
                            found = self.check(web, many, lot, tie)
                            both = lot + (tie,)
                            seen.append(found is None)
                            self.assertEqual(found is None, parts_apart(web, many, both))
        self.assertGreater(min(seen.count(True), seen.count(False)), 300)

    def test_there_is_just_one(self):
        chance = random.Random(44)
        looked = 0
        for web in small_webs(chance, 150, 4, 7):
            many = chance.randrange(1, 3)
            lot = tuple(tie for tie in range(len(web.ties)) if chance.randrange(3))
            ties = [tie for tie in range(len(web.ties)) if tie not in lot]
            if parts_apart(web, many, lot) and ties:
                tie = chance.choice(ties)
                found = closed_by(web, many, lot, tie)
                both = tuple(sorted(lot + (tie,)))
                least = [held for held in subsets(both) if not parts_apart(web, many, held)
                         and all(parts_apart(web, many, tuple(kept for kept in held if kept != other))
                                 for other in held)]
                self.assertEqual(least, [] if found is None else [found])
                looked += found is not None
        self.assertGreater(looked, 5)

    def test_great_webs(self):
        chance = random.Random(45)
        closed = 0
        for web in webs():
            for many in (1, 2, 3):
                ties = list(range(len(web.ties)))
                chance.shuffle(ties)
                lot = ()
                for tie in ties[:-1]:
                    if not crowded(web, many, lot + (tie,)):
                        lot += (tie,)
                lot = tuple(sorted(lot))
                for tie in [tie for tie in ties if tie not in lot][:4]:
                    closed += self.check(web, many, lot, tie) is not None
        self.assertGreater(closed, 100)

    def test_told_ones(self):
        web = e05_web()
        self.assertEqual(closed_by(web, 1, (1, 2), 3), (1, 2, 3))
        self.assertEqual(closed_by(web, 1, (1, 2), 0), (0, 1))
        self.assertEqual(closed_by(web, 1, (1, 2), 5), (2, 5))
        self.assertIsNone(closed_by(web, 2, (1, 2), 5))
        self.assertIsNone(closed_by(web, 1, (), 5))
        self.assertEqual(closed_by(web, 2, (0, 1, 2, 3), 4), (0, 1, 2, 3, 4))
        web = Web(4, ((0, 1), (1, 2), (0, 2), (2, 3)))
        self.assertEqual(closed_by(web, 1, (0, 1, 3), 2), (0, 1, 2))
        self.assertIsNone(closed_by(web, 1, (0, 1, 2)[:2], 3))

    def test_wrong_lots_and_ties(self):
        web = e05_web()
        for lot in ((0, 1), (0, 2, 3), (0, 1, 2, 3, 4, 5)):
            self.assertRaises(NotParted, closed_by, web, 1, lot, 5)
            self.assertRaises(NotParted, closed_by, web, 1, lot, 0)
            self.assertRaises(NotParted, closed_by, web, 1, lot, "no tie")
        for thing in odd_things() + [6, 7, -6, 1, 2, (3,), [3], "3", web]:
            self.assertRaises(NoTie, closed_by, web, 1, (1, 2), thing)
            self.assertRaises(NoTie, closed_by, web, 10, (1, 2), thing)
        self.assertRaises(NoTie, closed_by, Web(2, ()), 1, (), 0)


class CheapestTest(unittest.TestCase):

    def taken_apart(self, web, prices, many):
        """What comes by taking by price and number, each with which no lot of places is crowded."""
        lot = ()
        for _, tie in sorted((price, tie) for tie, price in enumerate(prices)):
            if not crowded(web, many, lot + (tie,)):
                lot += (tie,)
        return tuple(sorted(lot))

    def prices_of(self, chance, web):
        most = chance.choice([0, 1, 3, 10, 10 ** 6])
        return tuple(chance.choice([0, most, chance.randrange(most + 1)]) for _ in web.ties)

    def test_against_taking(self):
        chance = random.Random(46)
        told = 0
        for web in webs():
            most = min(10, strength(web))
            for many in {1, 2, most, most + 1} & set(range(1, 11)):
                prices = self.prices_of(chance, web)
                if many <= most:
                    told += 1
                    found = cheapest(web, prices, many)
                    self.assertIs(found.__class__, tuple)
                    self.assertEqual(found, self.taken_apart(web, prices, many))
                    self.assertEqual(len(found), many * (web.many - 1))
                    self.assertIs(is_cheapest(web, prices, many, found), True)
                    self.assertEqual(strength(Web(web.many, tuple(web.ties[tie] for tie in found))), many)
                else:
                    first = thin_partings(web, many)[0]
                    for call in (lambda: cheapest(web, prices, many), lambda: is_cheapest(web, prices, many, ())):
                        with self.assertRaises(Crossed) as caught:
                            call()
                        self.assertEqual(caught.exception.parting, first)
        self.assertGreater(told, 50)

    def test_against_all_lots_of_small_webs(self):
        chance = random.Random(47)
        found = []
        for web in small_webs(chance, 40, 4, 8) + [random_web(chance, 3, 8) for _ in range(10)]:
            for many in (1, 2, 3):
                prices = self.prices_of(chance, web)
                lots = subsets(range(len(web.ties)))
                right = [lot for lot in lots if len(lot) == many * (web.many - 1) and parts_apart(web, many, lot)]
                if not right:
                    self.assertRaises(Crossed, cheapest, web, prices, many)
                    self.assertRaises(Crossed, is_cheapest, web, prices, many, "no lot")
                    continue
                least = min(sum(prices[tie] for tie in lot) for lot in right)
                for lot in lots:
                    expected = lot in right and sum(prices[tie] for tie in lot) == least
                    found.append(is_cheapest(web, prices, many, lot))
                    self.assertIs(found[-1], expected)
                self.assertIn(cheapest(web, prices, many), right)
                self.assertEqual(sum(prices[tie] for tie in cheapest(web, prices, many)), least)
        self.assertGreater(found.count(True), 30)

    def test_those_of_one_price_by_number(self):
        web = e05_web()
        self.assertEqual(cheapest(web, (7,) * 6, 1), (0, 2))
        self.assertEqual(cheapest(web, (7,) * 6, 2), (0, 1, 2, 3))
        self.assertEqual(cheapest(web, (7,) * 6, 3), (0, 1, 2, 3, 4, 5))
        self.assertEqual(cheapest(web, (5, 1, 2, 2, 9, 4), 1), (1, 2))
        self.assertEqual(cheapest(web, (10 ** 6, 10 ** 6, 0, 10 ** 6, 10 ** 6 - 1, 0), 1), (2, 4))
        self.assertEqual(cheapest(web, (10 ** 6, 10 ** 6, 0, 10 ** 6, 10 ** 6 - 1, 0), 2), (0, 2, 4, 5))

    def test_each_tie_that_is_left_out_is_the_dearest(self):
        chance = random.Random(48)
        for web in webs():
            many = min(10, strength(web))
            if many:
                prices = self.prices_of(chance, web)
                found = cheapest(web, prices, many)
                for tie in every_tie(web):
                    if tie not in found:
                        closed = closed_by(web, many, found, tie)
                        self.assertEqual(prices[tie], max(prices[other] for other in closed))

    def test_is_cheapest(self):
        web = e05_web()
        prices = (5, 1, 2, 2, 9, 4)
        for lot in ((1, 2), (1, 3)):
            self.assertIs(is_cheapest(web, prices, 1, lot), True)
        for thing in ((2, 3), (0, 2), (1,), (1, 2, 3), (), (2, 1), [1, 2], (1, 1), (True, 2), (1, 6), ((1, 2),),
                      (0, 1), None, "12", 1, web, {1: 2}, (1, "2"), (1, None)):
            self.assertIs(is_cheapest(web, prices, 1, thing), False, thing)
        self.assertIs(is_cheapest(web, prices, 2, (1, 2, 3, 5)), True)
        self.assertIs(is_cheapest(web, prices, 2, (0, 1, 2, 3)), False)
        # As cheap, but two of its ties lie between the same places.
        self.assertIs(is_cheapest(web, (1,) * 6, 1, (0, 1)), False)
        self.assertIs(is_cheapest(web, (1,) * 6, 1, (0, 4)), True)
        # Cheaper by far, but no spanners.
        self.assertIs(is_cheapest(web, (0, 0, 1, 1, 1, 1), 1, (0, 1)), False)

    def test_is_cheapest_of_any_thing(self):
        web = Web(2, ((0, 1),) * 4)
        self.assertIs(is_cheapest(web, (3, 3, 3, 1), 1, (3,)), True)
        for thing in odd_things():
            self.assertIs(is_cheapest(web, (3, 3, 3, 1), 1, thing), False)
            self.assertIs(is_cheapest(web, (3, 3, 3, 1), 1, (thing,)), False)
            self.assertIs(is_cheapest(web, (3, 3, 3, 1), 2, (3, thing)), False)

    def test_crossed(self):
        web = Web(4, ((0, 1), (1, 2), (2, 3), (0, 3), (0, 2)))
        for many, parting in ((2, ((0,), (1,), (2,), (3,))), (3, ((0, 1, 2), (3,))), (10, ((0,), (1, 2, 3)))):
            with self.assertRaises(Crossed) as caught:
                cheapest(web, (0,) * 5, many)
            self.assertEqual(caught.exception.parting, parting)
            with self.assertRaises(Crossed) as caught:
                is_cheapest(web, (0,) * 5, many, None)
            self.assertEqual(caught.exception.parting, parting)

    def test_ten(self):
        web = Web(2, ((0, 1),) * 30)
        prices = tuple(30 - tie for tie in range(30))
        self.assertEqual(cheapest(web, prices, 10), tuple(range(20, 30)))
        self.assertEqual(len(spanners(web, 10)), 10)


class WrongArgumentsTest(unittest.TestCase):

    def calls(self, web, many, lot):
        return [lambda: can_part(web, many, lot), lambda: parted(web, many, lot),
                lambda: closed_by(web, many, lot, "no tie")]

    def priced_calls(self, web, prices, many):
        return [lambda: cheapest(web, prices, many), lambda: is_cheapest(web, prices, many, ())]

    def test_no_web(self):
        for thing in odd_things() + NOT_WEBS:
            for call in self.calls(thing, "no number", "no lot") + self.priced_calls(thing, "none", "none"):
                self.assertRaises(NoWeb, call)

    def test_no_number(self):
        web = e05_web()
        for thing in list(NO_COUNTS) + odd_things():
            for call in self.calls(web, thing, "no lot") + self.calls(web, thing, (0,)):
                self.assertRaises(NoNumber, call)
            for call in self.priced_calls(web, (1,) * 6, thing):
                self.assertRaises(NoNumber, call)
        web = Web(2, ((0, 1),) * 10)
        for many in range(1, 11):
            self.assertIs(can_part(web, many, (0,)), True)
            self.assertEqual(len(cheapest(web, (1,) * 10, many)), many)

    def test_no_lot(self):
        web = e05_web()
        for thing in NO_LOTS + odd_things():
            for call in self.calls(web, 1, thing):
                self.assertRaises(NoLot, call)

    def test_no_prices(self):
        web = Web(3, ((0, 1), (1, 2), (0, 2)))
        self.assertEqual(cheapest(web, (0, 10 ** 6, 10 ** 6), 1), (0, 1))
        bent = [(), (1,), (1, 2), (1, 2, 3, 4), [1, 2, 3], (1, 2, 10 ** 6 + 1), (-1, 2, 3), (1, True, 3), (1, 2, False),
                (1, None, 3), ("1", 2, 3), (1, (2,), 3), (10 ** 59, 1, 1), {0: 1, 1: 2, 2: 3}, range(3), "123", None,
                1, web, (web, web, web)]
        for thing in bent + odd_things():
            for call in self.priced_calls(web, thing, "no number"):
                self.assertRaises(NoPrices, call)


if __name__ == "__main__":
    unittest.main()
